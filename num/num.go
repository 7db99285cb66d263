// Package num is layer 1: numbers of 64 bits that never go beyond, quotients, amounts.
package num

import (
	"math"
	"math/bits"

	"debenture/api"
)

// Add is a sum.
func Add(a, b int64) (int64, bool) {
	c := a + b
	if (c < a) != (b < 0) {
		return 0, false
	}
	return c, true
}

// Neg is the opposite.
func Neg(a int64) (int64, bool) {
	return Sub(0, a)
}

// Sub is a difference.
func Sub(a, b int64) (int64, bool) {
	c := a - b
	if (c > a) != (b < 0) {
		return 0, false
	}
	return c, true
}

// Mul is a product.
func Mul(a, b int64) (int64, bool) {
	hi, lo := bits.Mul64(size(a), size(b))
	if hi != 0 {
		return 0, false
	}
	return signed((a < 0) != (b < 0), lo)
}

// size is a number without its sign; that of -2^63 fits, too.
func size(a int64) uint64 {
	if a < 0 {
		return -uint64(a)
	}
	return uint64(a)
}

// signed is the number of that size, and its sign.
func signed(neg bool, n uint64) (int64, bool) {
	if neg && n <= 1<<63 {
		return int64(-n), true
	}
	if neg || n > math.MaxInt64 {
		return 0, false
	}
	return int64(n), true
}

// MulDiv is a product over a number, rounded.
func MulDiv(a, b, c int64, mode int) (int64, bool) {
	if c == 0 || mode < api.Down || mode > api.Even {
		return 0, false
	}
	hi, lo := bits.Mul64(size(a), size(b))
	if hi >= size(c) {
		return 0, false
	}
	quo, rest := bits.Div64(hi, lo, size(c))
	neg := (a < 0) != (b < 0) != (c < 0)
	if away(quo, rest, size(c), neg, mode) {
		quo++
		if quo == 0 {
			return 0, false
		}
	}
	return signed(neg, quo)
}

// away tells whether a quotient with that rest is rounded away from nought.
func away(quo, rest, by uint64, neg bool, mode int) bool {
	more := by - rest // what is missing to the next one: twice the rest might be beyond
	switch mode {
	case api.Floor:
		return neg && rest != 0
	case api.Half:
		return rest >= more
	case api.Even:
		return rest > more || rest == more && quo%2 == 1
	}
	return false
}

// Sum is the sum of all.
func Sum(l []int64) (int64, bool) {
	var hi, lo uint64 // the sum in 128 bits: what is in between may be beyond
	for _, n := range l {
		var carry uint64
		lo, carry = bits.Add64(lo, uint64(n), 0)
		hi, _ = bits.Add64(hi, uint64(n>>63), carry)
	}
	n := int64(lo)
	if hi != uint64(n>>63) {
		return 0, false
	}
	return n, true
}
