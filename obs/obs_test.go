package obs

import (
	"math"
	"math/rand"
	"slices"
	"testing"

	"debenture/api"
	"debenture/check"
	"debenture/parse"
	"debenture/print"
)

func expr(t *testing.T, s string) api.Expr {
	t.Helper()
	e, _, err := parse.ParseExpr(s)
	if err != api.OK {
		t.Fatal(s, err)
	}
	return e
}

// P22.1
func TestSeen(t *testing.T) {
	l := []Fixing{{"A", 5, 50}, {"B", 1, 1}, {"A", 7, 70}, {"A", 7, 71}, {"A", 2, 20}, {"C", -3, -30}}
	for _, c := range []struct {
		name  string
		day   int
		value int64
		ok    bool
	}{{"A", 9, 70, true}, {"A", 7, 70, true}, {"A", 6, 50, true}, {"A", 5, 50, true}, {"A", 4, 20, true}, {"A", 1, 0, false}, {"B", 1, 1, true}, {"B", 0, 0, false}, {"D", 9, 0, false}, {"C", -3, -30, true}, {"A", math.MaxInt, 70, true}, {"A", math.MinInt, 0, false}} {
		if n, ok := Seen(Env{c.day, l}, c.name); n != c.value || ok != c.ok {
			t.Error(c, n, ok)
		}
	}
}

// P22.1
func TestEval(t *testing.T) {
	v := Env{19723, []Fixing{{"A", 0, 10}, {"M", 0, math.MaxInt64}, {"L", 0, math.MinInt64}, {"Z", 0, 0}}}
	n := func(n int64) Value { return Value{Kind: Number, N: n} }
	yes, no, broken, unknown := Value{Kind: Truth, B: true}, Value{Kind: Truth}, Value{Kind: Broken}, Value{}
	for s, want := range map[string]Value{
		"7": n(7), "day": n(19723), "2024-01-01": n(19723), "A": n(10), "X": unknown, "A + 1": n(11), "A - 11": n(-1), "A * 3": n(30), "A / 3": n(3), "-A / 3": n(-4), "A / -3": n(-4), "A / Z": broken, "min(A, 3)": n(3), "max(A, 3)": n(10), "-A": n(-10),
		"M + 1": broken, "L - 1": broken, "-L": broken, "M * 2": broken, "L / -1": broken, "X + 1": unknown, "1 + X": unknown, "X + M * 2": broken, "M * 2 + X": broken, "-X": unknown, "min(X, 1)": unknown,
		"A < 10": no, "A <= 10": yes, "A = 10": yes, "A != 10": no, "A >= 11": no, "A > 9": yes, "A >= 10": yes, "A >= 9": yes, "A > 10": no, "A > 11": no, "A < 11": yes, "A < 9": no, "A <= 9": no, "A <= 11": yes, "A = 9": no, "A != 9": yes, "X < 1": unknown, "X < M * 2": broken, "!(A = 10)": no, "!(X = 1)": unknown, "!(M * 2 = 1)": broken,
		"A = 1 & M * 2 = 1": no, "A = 1 & X = 1": no, "M * 2 = 1 & A = 1": broken, "A = 10 & X = 1": unknown, "A = 10 & M * 2 = 1": broken, "A = 10 & A = 10": yes, "A = 10 & A = 1": no, "X = 1 & A = 1": no, "X = 1 & A = 10": unknown, "X = 1 & M * 2 = 1": broken, "X = 1 & X = 1": unknown,
		"A = 10 | M * 2 = 1": yes, "A = 10 | X = 1": yes, "M * 2 = 1 | A = 10": broken, "A = 1 | X = 1": unknown, "A = 1 | M * 2 = 1": broken, "A = 1 | A = 1": no, "A = 1 | A = 10": yes, "X = 1 | A = 10": yes, "X = 1 | A = 1": unknown, "X = 1 | M * 2 = 1": broken,
		"if(A = 10, 1, M * 2)": n(1), "if(A = 1, M * 2, 2)": n(2), "if(X = 1, 1, 1)": unknown, "if(M * 2 = 1, 1, 1)": broken, "if(A = 10, X, 1)": unknown, "if(A = 1, 1, M * 2)": broken, "if(A = 10, A = 1, X = 1)": no, "SPX > 100 & day >= 2024-01-02": no,
		"1 & 2": broken, "A + (A = 1)": broken,
	} {
		if got := Eval(expr(t, s), v); got != want {
			t.Error(s, got, want)
		}
	}
	for _, e := range []api.Expr{{}, {Op: api.EConst, N: -1}, {Op: 99}, {Op: api.EAdd}} {
		if got := Eval(e, v); got != broken {
			t.Error(e, got)
		}
	}
}

// P22.2
func TestNeeds(t *testing.T) {
	v := Env{5, []Fixing{{"A", 5, 1}, {"B", 6, 1}}}
	for s, want := range map[string][]string{"1": nil, "A": nil, "B": {"B"}, "z + A * (b < B) + z": {"B", "b", "z"}, "if(1 < 2, A, C)": {"C"}, "1 & D": {"D"}} {
		if l := Needs(expr(t, s), v); !slices.Equal(l, want) {
			t.Error(s, l)
		}
	}
	if l := Needs(api.Expr{Op: api.ENeg, Args: []api.Expr{{Op: api.EObs, Name: "day"}}}, v); l != nil {
		t.Error(l)
	}
}

func random(r *rand.Rand, k int, truth bool) api.Expr {
	op := func(op int, truths ...bool) api.Expr {
		e := api.Expr{Op: op}
		for _, b := range truths {
			e.Args = append(e.Args, random(r, k-1, b))
		}
		return e
	}
	switch {
	case truth && (k <= 1 || r.Intn(2) == 0):
		if k < 1 {
			k = 1
		}
		return op(api.ELt+r.Intn(6), false, false)
	case truth:
		return [](func() api.Expr){func() api.Expr { return op(api.EBoth+r.Intn(2), true, true) }, func() api.Expr { return op(api.ENot, true) }, func() api.Expr { return op(api.EIf, true, true, true) }}[r.Intn(3)]()
	case k <= 0 || r.Intn(4) == 0:
		return []api.Expr{{Op: api.EConst, N: int64(r.Intn(4))}, {Op: api.EConst, N: math.MaxInt64}, {Op: api.EObs, Name: string(rune('A' + r.Intn(3)))}, {Op: api.EToday}, {Op: api.EDay, N: 3}}[r.Intn(5)]
	}
	switch r.Intn(8) {
	case 0:
		return op(api.ENeg, false)
	case 1:
		return op(api.EIf, true, false, false)
	}
	return op(api.EAdd+r.Intn(6), false, false)
}

// P22.3
func TestKnown(t *testing.T) {
	r := rand.New(rand.NewSource(1))
	fixing := func(day int) Fixing {
		return Fixing{string(rune('A' + r.Intn(3))), day, int64(r.Intn(4))}
	}
	for range 30000 {
		e := random(r, 3, r.Intn(2) == 0)
		v := Env{Day: 5}
		for range r.Intn(3) {
			v.Fixings = append(v.Fixings, fixing(r.Intn(9)))
		}
		is := Eval(e, v)
		s, _ := print.Expr(e)
		if got := Eval(check.Fold(e), v); got != is {
			t.Fatal("folded", s, got, is)
		}
		if got := Eval(e, Env{5, append(slices.Clone(v.Fixings), fixing(6+r.Intn(3)))}); got != is {
			t.Fatal("a later day", s, got, is)
		}
		missing := Needs(e, v)
		if len(missing) == 0 && is.Kind == Unknown {
			t.Fatal("all is seen", s)
		}
		if len(missing) > 0 && (is.Kind == Number || is.Kind == Truth) {
			more := Env{5, append(slices.Clone(v.Fixings), Fixing{missing[0], 0, int64(r.Intn(4))})}
			if got := Eval(e, more); got != is && got.Kind != Broken {
				t.Fatal("one more is seen", s, got, is)
			}
		}
	}
}
