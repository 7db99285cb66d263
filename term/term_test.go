package term

import (
	"math"
	"math/rand"
	"reflect"
	"slices"
	"testing"

	"debenture/api"
)

type (
	E = api.Expr
	T = api.Term
)

func n(n int64) E           { return E{Op: api.EConst, N: n} }
func o(s string) E          { return E{Op: api.EObs, Name: s} }
func x(op int, l ...E) E    { return E{Op: op, Args: l} }
func one(s string) T        { return T{Op: api.TOne, Name: s} }
func of(op int, l ...T) T   { return T{Op: op, Terms: l} }
func by(op int, e E, c T) T { return T{Op: op, Exprs: []E{e}, Terms: []T{c}} }
func deep(k int, e E) E     { return pile(k, e, func(e E) E { return x(api.ENeg, e) }) }
func tall(k int, t T) T     { return pile(k, t, func(t T) T { return of(api.TGive, t) }) }
func pile[A any](k int, a A, f func(A) A) A {
	for range k {
		a = f(a)
	}
	return a
}

var zero = T{Op: api.TZero}

// P18.1
func TestRightExpr(t *testing.T) {
	today := E{Op: api.EToday}
	good := []E{n(0), n(math.MaxInt64), {Op: api.EDay}, {Op: api.EDay, N: api.MaxDay}, o("SPX"), o("a234567890123456"), today, x(api.ENot, n(1)), x(api.ENeg, n(1)), x(api.EIf, n(1), n(2), n(3)), {Op: api.EToday, Args: []E{}}, deep(15, n(1))}
	for op := api.EAdd; op <= api.EEither; op++ {
		good = append(good, x(op, n(1), o("a")))
	}
	for _, e := range good {
		if !RightExpr(e) {
			t.Error("right:", e)
		}
	}
	bad := []E{{}, {Op: -1}, {Op: 22}, n(-1), n(math.MinInt64), {Op: api.EDay, N: -1}, {Op: api.EDay, N: api.MaxDay + 1}, o(""), o("day"), o("1a"), o("a2345678901234567"), {Op: api.EObs, Name: "a", N: 1}, {Op: api.EToday, N: 1}, {Op: api.EToday, Name: "a"}, {Op: api.EConst, Name: "a"}, {Op: api.EDay, Name: "a"}, x(api.EToday, n(1)), x(api.EConst, n(1)), x(api.EDay, n(1)), {Op: api.EObs, Name: "a", Args: []E{n(1)}}, x(api.ENot), x(api.ENeg, n(1), n(2)), x(api.EIf, n(1), n(2)), x(api.ENot, n(-1)), deep(16, n(1)), {Op: api.ENeg, N: 1, Args: []E{n(1)}}, {Op: api.EAdd, Name: "a", Args: []E{n(1), n(1)}}}
	for op := api.EAdd; op <= api.EEither; op++ {
		bad = append(bad, x(op, n(1)), x(op, n(1), n(1), n(1)), x(op, n(1), E{}), x(op))
	}
	for _, e := range bad {
		if RightExpr(e) || Right(by(api.TScale, e, zero)) {
			t.Error("wrong:", e)
		}
	}
	wide := n(1)
	for range 7 {
		wide = x(api.EAdd, wide, wide)
	}
	if nodes, depth := SizeExpr(wide); nodes != 255 || depth != 8 || RightExpr(wide) {
		t.Error(nodes, depth)
	}
	w := wide.Args[0] // 127 nodes
	w = x(api.EAdd, w, w.Args[0])
	if nodes, _ := SizeExpr(w); nodes != 191 || !RightExpr(w) {
		t.Error(nodes)
	}
	if w = x(api.EIf, w, x(api.EAdd, n(1), n(1)), n(1)); RightExpr(w) == false || RightExpr(x(api.EAdd, w, x(api.ENeg, n(1)))) == false {
		t.Error("199")
	}
	if nodes, _ := SizeExpr(x(api.ENeg, x(api.EAdd, w, x(api.ENeg, n(1))))); nodes != 200-1+1 {
		t.Error(nodes)
	}
	if RightExpr(x(api.ENeg, x(api.ENeg, x(api.EAdd, w, x(api.ENeg, n(1)))))) {
		t.Error("201")
	}
}

// P18.1
func TestRight(t *testing.T) {
	c := one("USD")
	for _, x := range []T{zero, c, of(api.TGive, c), of(api.TAnd, c, zero), of(api.TOr, c, c), by(api.TScale, n(1), c), by(api.TWhen, n(1), c), by(api.TUntil, n(1), c), by(api.TAnytime, n(1), c), tall(15, c), {Op: api.TZero, Exprs: []E{}, Terms: []T{}}, by(api.TScale, deep(14, n(1)), c)} {
		if !Right(x) {
			t.Error("right:", x)
		}
	}
	for _, x := range []T{{}, {Op: 10}, {Op: -1}, one(""), one("zero"), one("a b"), {Op: api.TZero, Name: "a"}, {Op: api.TOne, Name: "a", Terms: []T{zero}}, {Op: api.TOne, Name: "a", Exprs: []E{n(1)}}, {Op: api.TGive, Name: "a", Terms: []T{zero}}, of(api.TGive), of(api.TGive, c, c), of(api.TAnd, c), of(api.TOr, c, c, c), {Op: api.TScale, Terms: []T{c}}, {Op: api.TScale, Exprs: []E{n(1), n(1)}, Terms: []T{c}}, {Op: api.TWhen, Exprs: []E{n(1)}}, by(api.TGive, n(1), c), {Op: api.TAnd, Exprs: []E{n(1)}, Terms: []T{c, c}}, by(api.TScale, n(1), T{}), {Op: api.TZero, Exprs: []E{n(1)}}, tall(16, c), by(api.TScale, deep(15, n(1)), c), {Op: api.TScale, Name: "a", Exprs: []E{n(1)}, Terms: []T{c}}} {
		if Right(x) {
			t.Error("wrong:", x)
		}
		if a, b := Names(x); a != nil || b != nil {
			t.Error("Names", x)
		}
		if !reflect.DeepEqual(Simple(x), x) {
			t.Error("Simple", x)
		}
	}
	for s, want := range map[string]bool{"zero": true, "one": true, "give": true, "and": true, "or": true, "scale": true, "when": true, "until": true, "anytime": true, "day": true, "min": true, "max": true, "if": true, "": false, "Zero": false, "days": false, "not": false} {
		if Reserved(s) != want {
			t.Error(s)
		}
	}
}

// P18.1
func TestSize(t *testing.T) {
	c := by(api.TScale, x(api.EAdd, n(1), deep(3, n(2))), of(api.TAnd, one("USD"), zero))
	if nodes, depth := Size(c); nodes != 1+1+1+4+3 || depth != 6 {
		t.Error(nodes, depth)
	}
	if nodes, depth := Size(T{Op: 77, Exprs: []E{{}}}); nodes != 2 || depth != 2 {
		t.Error(nodes, depth)
	}
	if nodes, depth := Size(tall(998, zero)); nodes != 999 || depth != 999 {
		t.Error(nodes, depth)
	}
	if nodes, depth := Size(tall(999, zero)); nodes != 1000 || depth != 1000 {
		t.Error(nodes, depth)
	}
	if nodes, depth := SizeExpr(E{Args: make([]E, 998)}); nodes != 999 || depth != 2 {
		t.Error(nodes, depth)
	}
	if nodes, depth := SizeExpr(E{Args: make([]E, 999)}); nodes != 1000 || depth != 1000 {
		t.Error(nodes, depth)
	}
	e, u := n(1), zero
	for range 60 {
		e, u = x(api.EAdd, e, e), of(api.TAnd, u, u)
	}
	for _, k := range []int{60, 30000} {
		d, v := deep(k, e), tall(k, u)
		if nodes, depth := SizeExpr(d); nodes != 1000 || depth != 1000 || RightExpr(d) || SameExpr(d, d) {
			t.Error(nodes, depth)
		}
		if nodes, depth := Size(v); nodes != 1000 || depth != 1000 || Right(v) || Same(v, v) {
			t.Error(nodes, depth)
		}
		Simple(v)
		Names(v)
	}
}

func randomExpr(r *rand.Rand, k int) E {
	if k == 0 || r.Intn(4) == 0 {
		return []E{n(int64(r.Intn(3))), o("S"), o("A"), {Op: api.EToday}, {Op: api.EDay, N: 5}}[r.Intn(5)]
	}
	op := api.EAdd + r.Intn(api.EIf-api.EAdd+1)
	e := E{Op: op}
	for range operands(op) {
		e.Args = append(e.Args, randomExpr(r, k-1))
	}
	return e
}

func random(r *rand.Rand, k int) T {
	if k == 0 || r.Intn(5) == 0 {
		return []T{zero, one("USD"), one("EUR")}[r.Intn(3)]
	}
	switch op := api.TGive + r.Intn(7); op {
	case api.TGive:
		return of(op, random(r, k-1))
	case api.TAnd, api.TOr:
		return of(op, random(r, k-1), random(r, k-1))
	default:
		return by(op, randomExpr(r, 2), random(r, k-1))
	}
}

// P18.1
func TestSame(t *testing.T) {
	r := rand.New(rand.NewSource(1))
	var l []T
	for range 150 {
		l = append(l, random(r, 3))
	}
	for _, a := range l {
		for _, b := range l {
			if Same(a, b) != reflect.DeepEqual(a, b) {
				t.Fatal(a, b)
			}
		}
	}
	if !Same(T{Op: api.TZero, Exprs: []E{}}, zero) || !SameExpr(E{Op: api.EToday, Args: []E{}}, E{Op: api.EToday}) {
		t.Error("lists without elements are one")
	}
	if SameExpr(n(1), n(2)) || SameExpr(o("a"), o("b")) || SameExpr(n(0), E{Op: api.EDay}) || Same(one("a"), one("b")) {
		t.Error("field by field")
	}
}

// P18.1
func TestNames(t *testing.T) {
	c := of(api.TAnd, by(api.TScale, x(api.EAdd, o("z"), o("b")), of(api.TOr, one("USD"), one("EUR"))), by(api.TUntil, x(api.ELt, o("b"), E{Op: api.EToday}), one("USD")))
	if a, b := Names(c); !slices.Equal(a, []string{"EUR", "USD"}) || !slices.Equal(b, []string{"b", "z"}) {
		t.Error(a, b)
	}
	if a, b := Names(zero); a != nil || b != nil {
		t.Error(a, b)
	}
}

// P18.2, P18.3
func TestSimple(t *testing.T) {
	c, b := one("USD"), n(7)
	give := func(t T) T { return of(api.TGive, t) }
	for i, p := range [][2]T{
		{give(give(c)), c}, {give(zero), zero}, {by(api.TScale, b, zero), zero}, {by(api.TWhen, b, zero), zero}, {by(api.TUntil, b, zero), zero}, {by(api.TAnytime, b, zero), by(api.TAnytime, b, zero)},
		{of(api.TAnd, zero, c), c}, {of(api.TAnd, c, zero), c}, {of(api.TOr, c, zero), of(api.TOr, c, zero)}, {by(api.TScale, n(1), c), c}, {by(api.TScale, n(2), c), by(api.TScale, n(2), c)},
		{give(give(give(c))), give(c)}, {give(by(api.TScale, n(1), give(c))), c}, {of(api.TAnd, give(zero), by(api.TWhen, b, give(zero))), zero}, {by(api.TScale, x(api.ENeg, n(1)), c), by(api.TScale, x(api.ENeg, n(1)), c)},
		{by(api.TScale, E{Op: api.EDay, N: 1}, c), by(api.TScale, E{Op: api.EDay, N: 1}, c)}, {by(api.TWhen, n(1), c), by(api.TWhen, n(1), c)}, {of(api.TOr, give(give(c)), zero), of(api.TOr, c, zero)},
	} {
		if s := Simple(p[0]); !Same(s, p[1]) {
			t.Error(i, s)
		}
	}
	r := rand.New(rand.NewSource(2))
	for range 3000 {
		c := random(r, 5)
		if !Right(c) {
			continue
		}
		s := Simple(c)
		before, _ := Size(c)
		after, _ := Size(s)
		if !Right(s) || after > before || !Same(Simple(s), s) {
			t.Fatal(c, s)
		}
	}
}
