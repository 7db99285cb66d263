package num

import (
	"math"
	"math/big"
	"math/rand"
	"slices"
	"strings"
	"testing"

	"debenture/api"
)

var edges = []int64{0, 1, -1, 2, -2, 3, -3, 5, 7, -7, 10, 100, 1 << 31, 1 << 32, -1 << 32, 3037000499, 3037000500, 1 << 62, -1 << 62, math.MaxInt64 - 1, math.MaxInt64, math.MinInt64 + 1, math.MinInt64}

func picks(r *rand.Rand) int64 {
	if r.Intn(2) == 0 {
		return edges[r.Intn(len(edges))]
	}
	return int64(r.Uint64()) >> r.Intn(64)
}

func of(n *big.Int) (int64, bool) {
	if !n.IsInt64() {
		return 0, false
	}
	return n.Int64(), true
}

func check(t *testing.T, what string, n int64, ok bool, want *big.Int) {
	t.Helper()
	if m, is := of(want); n != m || ok != is {
		t.Fatalf("%s: %d %v, want %s", what, n, ok, want)
	}
}

// P1.1
func TestSums(t *testing.T) {
	for _, a := range edges {
		n, ok := Neg(a)
		check(t, "Neg", n, ok, new(big.Int).Neg(big.NewInt(a)))
		for _, b := range edges {
			x, y := big.NewInt(a), big.NewInt(b)
			n, ok = Add(a, b)
			check(t, "Add", n, ok, new(big.Int).Add(x, y))
			n, ok = Sub(a, b)
			check(t, "Sub", n, ok, new(big.Int).Sub(x, y))
			n, ok = Mul(a, b)
			check(t, "Mul", n, ok, new(big.Int).Mul(x, y))
		}
	}
}

func rounded(a, b *big.Int, mode int) *big.Int {
	q, m := new(big.Int).DivMod(a, b, new(big.Int)) // Euclidean: the rest isn't below 0
	low := q
	if m.Sign() != 0 && b.Sign() < 0 {
		low = new(big.Int).Sub(q, big.NewInt(1))
	}
	high := new(big.Int).Add(low, big.NewInt(1))
	if m.Sign() == 0 {
		return low
	}
	neg := (a.Sign() < 0) != (b.Sign() < 0)
	in, out := low, high
	if neg {
		in, out = high, low
	}
	twice := new(big.Int).Mul(b, new(big.Int).Add(low, high))
	c := new(big.Int).Mul(a, big.NewInt(2)).Cmp(twice) * b.Sign()
	switch {
	case mode == api.Down:
		return in
	case mode == api.Floor:
		return low
	case c < 0:
		return low
	case c > 0:
		return high
	case mode == api.Half:
		return out
	case low.Bit(0) == 0:
		return low
	}
	return high
}

// P1.1
func TestMulDiv(t *testing.T) {
	r := rand.New(rand.NewSource(1))
	for range 200000 {
		a, b, c, mode := picks(r), picks(r), picks(r), r.Intn(4)
		n, ok := MulDiv(a, b, c, mode)
		if c == 0 {
			if n != 0 || ok {
				t.Fatal("by 0")
			}
			continue
		}
		p := new(big.Int).Mul(big.NewInt(a), big.NewInt(b))
		check(t, "MulDiv", n, ok, rounded(p, big.NewInt(c), mode))
	}
	for _, mode := range []int{-1, 4, math.MaxInt, math.MinInt} {
		if n, ok := MulDiv(6, 1, 3, mode); n != 0 || ok {
			t.Error("mode", mode)
		}
	}
	for _, b := range []int64{1<<33 - 1, 1 - 1<<33} { // it is rounded up to 2^64
		if n, ok := MulDiv(1<<33+1, b, 4, api.Half); n != 0 || ok {
			t.Error(n)
		}
	}
	for i, want := range []int64{3, 3, 4, 4} {
		if n, _ := MulDiv(7, 1, 2, i); n != want {
			t.Error(i, n)
		}
	}
	for i, want := range []int64{-2, -3, -3, -2} {
		if n, _ := MulDiv(5, -1, 2, i); n != want {
			t.Error(i, n)
		}
	}
}

// P1.1
func TestSum(t *testing.T) {
	r := rand.New(rand.NewSource(2))
	for range 20000 {
		want := new(big.Int)
		var l []int64
		for range r.Intn(6) {
			n := picks(r)
			l = append(l, n)
			want.Add(want, big.NewInt(n))
		}
		n, ok := Sum(l)
		check(t, "Sum", n, ok, want)
	}
	if n, ok := Sum([]int64{math.MaxInt64, math.MaxInt64, math.MinInt64, math.MinInt64, 2}); n != 0 || !ok {
		t.Error("what is in between may be beyond", n, ok)
	}
}

// P1.2
func TestGcd(t *testing.T) {
	const least = math.MinInt64
	for _, c := range [][3]int64{{0, 0, 0}, {12, 18, 6}, {-12, 18, 6}, {0, -5, 5}, {least, 0, least}, {0, least, least}, {least, least, least}, {least, 6, 2}, {7, least, 1}} {
		if n := Gcd(c[0], c[1]); n != c[2] {
			t.Error(c, n)
		}
	}
}

func ratOf(r api.Ratio) *big.Rat { return big.NewRat(1, 1).SetFrac64(r.Num, r.Den) }

func checkRat(t *testing.T, what string, r api.Ratio, ok bool, want *big.Rat) {
	t.Helper()
	if !want.Num().IsInt64() || !want.Denom().IsInt64() {
		if ok || r != (api.Ratio{}) {
			t.Fatalf("%s: %v %v, want none", what, r, ok)
		}
		return
	}
	if !ok || r.Num != want.Num().Int64() || r.Den != want.Denom().Int64() {
		t.Fatalf("%s: %v %v, want %v", what, r, ok, want)
	}
}

// P1.2
func TestRatios(t *testing.T) {
	r := rand.New(rand.NewSource(3))
	for range 200000 {
		a, b := api.Ratio{Num: picks(r), Den: picks(r)}, api.Ratio{Num: picks(r), Den: picks(r)}
		sum, ok := RatAdd(a, b)
		mul, is := RatMul(a, b)
		c, may := RatCmp(a, b)
		if a.Den == 0 || b.Den == 0 {
			if ok || is || may || sum != (api.Ratio{}) || mul != (api.Ratio{}) || c != 0 {
				t.Fatal("Den 0", a, b)
			}
			continue
		}
		x, y := ratOf(a), ratOf(b)
		checkRat(t, "RatAdd", sum, ok, new(big.Rat).Add(x, y))
		checkRat(t, "RatMul", mul, is, new(big.Rat).Mul(x, y))
		if c != x.Cmp(y) || !may {
			t.Fatal("RatCmp", a, b, c)
		}
		red, fits := Reduce(a)
		checkRat(t, "Reduce", red, fits, x)
	}
	if r, ok := Reduce(api.Ratio{Num: 3}); ok || r != (api.Ratio{}) {
		t.Error("Reduce of Den 0")
	}
	if r, ok := Reduce(api.Ratio{Den: -4}); !ok || r != (api.Ratio{Den: 1}) {
		t.Error("Reduce of 0")
	}
	if n, ok := Apply(7, api.Ratio{Num: 1, Den: 2}, api.Even); n != 4 || !ok {
		t.Error("Apply", n, ok)
	}
	if _, ok := Apply(7, api.Ratio{Num: 1}, api.Even); ok {
		t.Error("Apply by 0")
	}
}

// P1.3
func TestShare(t *testing.T) {
	cases := []struct {
		total         int64
		weights, want []int64
	}{
		{10, []int64{1, 1, 1}, []int64{4, 3, 3}},
		{10, []int64{0, 1, 2}, []int64{0, 3, 7}},
		{5, []int64{1, 1}, []int64{3, 2}},
		{0, []int64{3, 0}, []int64{0, 0}},
		{100, []int64{1, 2, 3, 1}, []int64{14, 29, 43, 14}},
		{math.MaxInt64, []int64{math.MaxInt64 - 1, 1}, []int64{math.MaxInt64 - 1, 1}},
		{1, []int64{0, 0, 5}, []int64{0, 0, 1}},
	}
	for _, c := range cases {
		l, ok := Share(c.total, c.weights)
		if !ok || !slices.Equal(l, c.want) {
			t.Error(c.total, c.weights, l)
		}
	}
	r := rand.New(rand.NewSource(4))
	for range 20000 {
		w := make([]int64, 1+r.Intn(64))
		for i := range w {
			w[i] = int64(r.Uint64()>>1) >> (8 + r.Intn(55))
		}
		total := int64(r.Uint64()>>1) >> r.Intn(63)
		l, ok := Share(total, w)
		sum, fits := Sum(w)
		if ok != (fits && sum > 0) {
			t.Fatal(total, w, ok)
		}
		if all, _ := Sum(l); ok && all != total {
			t.Fatal(total, w, l)
		}
	}
	wrong := []struct {
		total   int64
		weights []int64
	}{{1, nil}, {1, make([]int64, 65)}, {-1, []int64{1}}, {1, []int64{2, -1}}, {1, []int64{0, 0}}, {1, []int64{math.MaxInt64, 1}}}
	wrong[1].weights[0] = 1
	for _, c := range wrong {
		if l, ok := Share(c.total, c.weights); ok || l != nil {
			t.Error(c, l)
		}
	}
	if _, ok := Share(1, wrong[1].weights[:64]); !ok {
		t.Error("64 weights")
	}
}

// P1.4
func TestAmount(t *testing.T) {
	for digits := range 10 {
		for _, n := range edges {
			s := Print(n, digits)
			if m, ok := Amount(s, digits); m != n || !ok {
				t.Error(n, digits, s, m, ok)
			}
			if digits > 0 != strings.Contains(s, ".") {
				t.Error(s)
			}
		}
	}
	good := map[string]int64{"-0.05": -5, "0.00": 0, "10.00": 1000, "-92233720368547758.08": math.MinInt64, "92233720368547758.07": math.MaxInt64}
	for s, want := range good {
		if n, ok := Amount(s, 2); n != want || !ok || Print(n, 2) != s {
			t.Error(s, n, ok)
		}
	}
	bad := []string{"", "-", ".", "-0.00", "00.05", "01.00", ".05", "1", "1.", "1.0", "1.000", "1,00", "+1.00", "--1.00", " 1.00", "1.00 ", "1.0a", "a.00", "1.0.0", "92233720368547758.08", "-92233720368547758.09", "1.-1", "99999999999999999999999999.00", "1.0\xff"}
	for _, s := range bad {
		if n, ok := Amount(s, 2); n != 0 || ok {
			t.Error(s, n)
		}
	}
	for _, s := range []string{"-0", "007", "1.", "0.", "", "9223372036854775808"} {
		if n, ok := Amount(s, 0); n != 0 || ok {
			t.Error(s, n)
		}
	}
	for _, digits := range []int{-1, 10, math.MaxInt} {
		if _, ok := Amount("1."+strings.Repeat("0", max(0, min(digits, 20))), digits); ok || Print(1, digits) != "" {
			t.Error(digits)
		}
	}
	if Print(-5, 2) != "-0.05" || Print(0, 0) != "0" || Print(7, 9) != "0.000000007" {
		t.Error("Print")
	}
}
