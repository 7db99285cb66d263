package check

import (
	"math"
	"math/rand"
	"slices"
	"strings"
	"testing"

	"debenture/api"
	"debenture/parse"
	"debenture/print"
	"debenture/term"
)

func expr(t *testing.T, s string) api.Expr {
	t.Helper()
	e, _, err := parse.ParseExpr(s)
	if err != api.OK {
		t.Fatal(s, err)
	}
	return e
}

func contract(t *testing.T, s string) api.Term {
	t.Helper()
	c, _, err := parse.Parse(s)
	if err != api.OK {
		t.Fatal(s, err)
	}
	return c
}

// P21.1
func TestKind(t *testing.T) {
	for s, want := range map[string]int{
		"1": Number, "2024-01-31": Number, "S": Number, "day": Number, "1 + S * day / 2 - 3": Number, "min(1, max(2, S))": Number, "-S": Number, "if(1 < 2, 3, S)": Number,
		"1 < 2": Truth, "1 <= 2": Truth, "1 = 2": Truth, "1 != 2": Truth, "1 >= 2": Truth, "1 > 2": Truth, "1 < 2 & 3 < 4 | !(1 = 2)": Truth, "if(1 < 2, 3 < 4, 5 < 6)": Truth,
		"1 + (1 < 2)": 0, "(1 < 2) * 1": 0, "(1 < 2) < 3": 0, "1 = (2 = 3)": 0, "1 & 2": 0, "1 < 2 | 3": 0, "!1": 0, "-(1 < 2)": 0, "if(1, 2, 3)": 0, "if(1 < 2, 3, 4 < 5)": 0, "if(1 < 2, 3 < 4, 5)": 0, "min(1 < 2, 3)": 0, "-(1 & 2)": 0, "if(1 < 2, 1 & 2, 1 & 2)": 0, "if(1 & 2, 1, 2)": 0,
	} {
		if k, ok := Kind(expr(t, s)); k != want || ok != (want != 0) {
			t.Error(s, k, ok)
		}
	}
	for _, e := range []api.Expr{{}, {Op: api.EConst, N: -1}, {Op: api.EIf}, {Op: 99}, {Op: api.ENot}} {
		if k, ok := Kind(e); k != 0 || ok {
			t.Error(e, k)
		}
	}
}

// P21.1
func TestFault(t *testing.T) {
	for s, want := range map[string][]int{
		"zero": nil, "one(USD)": nil, "scale(1, zero)": nil, "when(1 < 2, until(1 = 2, anytime(!(1 = 2), give(zero))))": nil,
		"when(1, zero)": {0}, "until(S, zero)": {0}, "anytime(day, zero)": {0}, "scale(1 < 2, zero)": {0}, "scale(1 + (1 < 2), zero)": {0}, "scale(1 + (2 + (1 < 2)), zero)": {0, 1}, "scale((1 & 2) + (3 & 4), zero)": {0, 0}, "scale(1 + if(2, 3, 4), zero)": {0, 1},
		"and(zero, when(1, zero))": {1, 0}, "and(when(1, zero), when(2, zero))": {0, 0}, "scale(1, when(2, zero))": {1, 0}, "scale(1 < 2, when(2, zero))": {0}, "give(give(scale(-(1 < 2), zero)))": {0, 0, 0}, "when(1 < 2, or(zero, scale(1 & 2, zero)))": {1, 1, 0}, "when(if(1 < 2, !1, 1 & 2), zero)": {0, 1}, "scale(if(1 < 2, 3, 4 < 5), zero)": {0},
	} {
		c := contract(t, s)
		path, is := Fault(c)
		err := api.OK
		if want != nil {
			err = api.ErrType
		}
		if !slices.Equal(path, want) || is != (want != nil) || Fits(c) != err {
			t.Error(s, path, is, Fits(c))
		}
	}
	for _, c := range []api.Term{{}, {Op: api.TGive}, {Op: api.TScale, Exprs: []api.Expr{{}}, Terms: []api.Term{{Op: api.TZero}}}} {
		if path, is := Fault(c); path != nil || is || Fits(c) != api.ErrArg {
			t.Error(c, path)
		}
	}
}

// P21.2
func TestFold(t *testing.T) {
	for s, want := range map[string]string{
		"2 * 3 - 10": "-4", "1 + 2": "3", "7 / 2": "3", "-7 / 2": "-4", "7 / 0": "7 / 0", "min(3, -2)": "-2", "max(3, -2)": "3", "--5": "5", "-0": "0", "-5": "-5", "---5": "-5", "1970-01-10": "1970-01-10", "1970-01-10 + 1": "10", "-1970-01-10": "-9", "-1970-01-01": "0", "--1970-01-10": "9",
		"9223372036854775807 + 1": "9223372036854775807 + 1", "-9223372036854775807 - 1": "-9223372036854775807 - 1", "-9223372036854775807": "-9223372036854775807", "9223372036854775807 * 2": "9223372036854775807 * 2", "-9223372036854775807 - 0": "-9223372036854775807",
		"1 + 2 + S": "3 + S", "S + (1 + 2)": "S + 3", "S + 1 + 2": "S + 1 + 2", "1 < 2": "1 < 2", "1 + 1 < 2 * 3": "2 < 6", "if(1 < 2, 1 + 1, 2 - 2)": "if(1 < 2, 2, 0)", "1 < 2 & 1 + 1 = 2": "1 < 2 & 2 = 2", "!(1 + 1 = 2)": "!(2 = 2)", "day + 1": "day + 1", "1 & 1 + 1": "1 & 2", "-(1 - 3)": "2", "5 - 5": "0", "1 / 0 + (1 + 1)": "1 / 0 + 2", "0 - 9223372036854775807 - 1": "-9223372036854775807 - 1",
	} {
		got, err := print.Expr(Fold(expr(t, s)))
		if got != want || err != api.OK {
			t.Errorf("%s: %s, want %s", s, got, want)
		}
	}
	wrong := api.Expr{Op: api.EAdd, Args: []api.Expr{{Op: api.EConst, N: -1}, {Op: api.EConst, N: 1}}}
	if !term.SameExpr(Fold(wrong), wrong) {
		t.Error("one that isn't right")
	}
	c := contract(t, "when(1 + 1 < S, and(scale(2 * 3, one(USD)), until(-0 = 0, zero)))")
	if s, _ := print.Term(Folded(c)); s != "when(2 < S, and(scale(6, one(USD)), until(0 = 0, zero)))" {
		t.Error(s)
	}
	if s, _ := print.Term(c); s != "when(1 + 1 < S, and(scale(2 * 3, one(USD)), until(-0 = 0, zero)))" {
		t.Error("what was handed in is changed", s)
	}
	bad := api.Term{Op: api.TScale, Exprs: []api.Expr{wrong}, Terms: []api.Term{{Op: api.TZero}}}
	if !term.Same(Folded(bad), bad) {
		t.Error("one that isn't right")
	}
}

func random(r *rand.Rand, k int) api.Expr {
	if k == 0 || r.Intn(5) == 0 {
		return []api.Expr{{Op: api.EConst, N: int64(r.Intn(4))}, {Op: api.EConst, N: math.MaxInt64 - int64(r.Intn(2))}, {Op: api.EObs, Name: "S"}, {Op: api.EToday}, {Op: api.EDay, N: int64(r.Intn(5))}}[r.Intn(5)]
	}
	e := api.Expr{Op: api.EAdd + r.Intn(api.EIf-api.EAdd+1)}
	n := 2
	if e.Op == api.ENot || e.Op == api.ENeg {
		n = 1
	} else if e.Op == api.EIf {
		n = 3
	}
	for range n {
		e.Args = append(e.Args, random(r, k-1))
	}
	return e
}

// P21.3
func TestFolded(t *testing.T) {
	r := rand.New(rand.NewSource(1))
	for range 30000 {
		e := random(r, 1+r.Intn(5))
		if !term.RightExpr(e) {
			continue
		}
		f := Fold(e)
		k, ok := Kind(e)
		l, is := Kind(f)
		before, _ := term.SizeExpr(e)
		after, _ := term.SizeExpr(f)
		if k != l || ok != is || after > before || !term.RightExpr(f) || !term.SameExpr(Fold(f), f) {
			t.Fatal(e, f)
		}
	}
}

// P21.1: kinds are told quickly, however they stand in one another
func TestNested(t *testing.T) {
	s := strings.Repeat("if(1 < 2, ", 14) + "1" + strings.Repeat(", 2)", 14)
	for range 1000 {
		if k, ok := Kind(expr(t, s)); k != Number || !ok {
			t.Fatal(k)
		}
	}
}
