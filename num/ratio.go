package num

import (
	"cmp"
	"math/bits"

	"debenture/api"
)

// quotient is a ratio in form, whose numbers may have 64 bits beside the sign.
type quotient struct {
	neg      bool
	num, den uint64
}

// gcd is the greatest number that divides both; the other one, if one is 0.
func gcd(a, b uint64) uint64 {
	for b != 0 {
		a, b = b, a%b
	}
	return a
}

// Gcd is the greatest number that divides both.
func Gcd(a, b int64) int64 {
	return int64(gcd(size(a), size(b)))
}

// inForm is a ratio as a quotient in form.
func inForm(r api.Ratio) (quotient, bool) {
	if r.Den == 0 {
		return quotient{}, false
	}
	n, d := size(r.Num), size(r.Den)
	g := gcd(n, d)
	return quotient{(r.Num < 0) != (r.Den < 0) && r.Num != 0, n / g, d / g}, true
}

// ratio is a quotient in form as a ratio.
func ratio(q quotient) (api.Ratio, bool) {
	n, ok := signed(q.neg, q.num)
	d, fits := signed(false, q.den)
	if !ok || !fits {
		return api.Ratio{}, false
	}
	return api.Ratio{Num: n, Den: d}, true
}

// Reduce is a ratio in form.
func Reduce(r api.Ratio) (api.Ratio, bool) {
	q, ok := inForm(r)
	if !ok {
		return api.Ratio{}, false
	}
	return ratio(q)
}

// both is two ratios as quotients in form.
func both(a, b api.Ratio) (quotient, quotient, bool) {
	p, ok := inForm(a)
	q, fits := inForm(b)
	return p, q, ok && fits
}

// RatMul is a product of ratios.
func RatMul(a, b api.Ratio) (api.Ratio, bool) {
	p, q, ok := both(a, b)
	if !ok {
		return api.Ratio{}, false
	}
	// Divided crosswise ahead, the products are in form at once.
	g, h := gcd(p.num, q.den), gcd(q.num, p.den)
	over, num := bits.Mul64(p.num/g, q.num/h)
	beyond, den := bits.Mul64(p.den/h, q.den/g)
	if over != 0 || beyond != 0 {
		return api.Ratio{}, false
	}
	return ratio(quotient{p.neg != q.neg && num != 0, num, den})
}

// RatAdd is a sum of ratios.
func RatAdd(a, b api.Ratio) (api.Ratio, bool) {
	p, q, ok := both(a, b)
	if !ok {
		return api.Ratio{}, false
	}
	g := gcd(p.den, q.den)
	neg, hi, lo := crossSum(p, q, g)
	// Only what divides g, too, can divide the sum and the common denominator.
	h := gcd(g, bits.Rem64(hi, lo, g))
	beyond, den := bits.Mul64(p.den/g, q.den/h)
	if hi >= h || beyond != 0 {
		return api.Ratio{}, false
	}
	num, _ := bits.Div64(hi, lo, h)
	return ratio(quotient{neg && num != 0, num, den})
}

// crossSum is the sum of two quotients times their denominators over g: its sign, and its 128 bits.
func crossSum(p, q quotient, g uint64) (bool, uint64, uint64) {
	ahi, alo := bits.Mul64(p.num, q.den/g)
	bhi, blo := bits.Mul64(q.num, p.den/g)
	if p.neg == q.neg {
		lo, carry := bits.Add64(alo, blo, 0)
		hi, _ := bits.Add64(ahi, bhi, carry)
		return p.neg, hi, lo
	}
	if bhi > ahi || bhi == ahi && blo > alo {
		ahi, alo, bhi, blo = bhi, blo, ahi, alo
		p.neg = q.neg
	}
	lo, carry := bits.Sub64(alo, blo, 0)
	hi, _ := bits.Sub64(ahi, bhi, carry)
	return p.neg, hi, lo
}

// RatCmp tells which of two ratios is greater.
func RatCmp(a, b api.Ratio) (int, bool) {
	p, q, ok := both(a, b)
	if !ok {
		return 0, false
	}
	if p.neg != q.neg {
		if p.neg {
			return -1, true
		}
		return 1, true
	}
	ahi, alo := bits.Mul64(p.num, q.den)
	bhi, blo := bits.Mul64(q.num, p.den)
	c := cmp.Compare(ahi, bhi)
	if c == 0 {
		c = cmp.Compare(alo, blo)
	}
	if p.neg {
		c = -c
	}
	return c, true
}

// Apply is a number times a ratio, rounded.
func Apply(n int64, r api.Ratio, mode int) (int64, bool) {
	return MulDiv(n, r.Num, r.Den, mode)
}
