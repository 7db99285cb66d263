package print

import (
	"math"
	"math/rand"
	"strings"
	"testing"

	"debenture/api"
	"debenture/parse"
	"debenture/term"
)

type (
	E = api.Expr
	T = api.Term
)

// P20.1: what is printed so is parsed, and printed as it was
func TestTexts(t *testing.T) {
	for _, s := range []string{
		"1 - 2 - 3", "1 - (2 - 3)", "a + b * c", "(a + b) * c", "a * (b * c)", "a / b / c", "a * b / c", "a / (b * c)", "-a", "--a", "!-!a", "-(a + b)", "-(a * b)", "-a * -b", "!(a = b)", "!a = !b", "(a < b) < c", "a < (b < c)", "a + b < c - d",
		"a | b & c", "(a | b) & c", "a & (b & c)", "a | (b | c)", "a | b | c", "a & b & c", "a < b & c >= d | e != f", "(a & b) = c", "a - -b", "-9223372036854775807", "min(a, b)", "max(a | b, c + d)", "if(a < b, b, c) * 2", "-min(a, b)", "day", "day >= 2024-01-31", "9999-12-31", "a + (b < c)", "(a | b) + c", "-(a | b)", "if(a | b, -c, !d)", "(a = b) = (c = d)", "a <= b", "a > b", "0",
	} {
		e, _, err := parse.ParseExpr(s)
		if err != api.OK {
			t.Fatal(s, err)
		}
		if got, err := Expr(e); got != s || err != api.OK {
			t.Errorf("%q: %q %d", s, got, err)
		}
	}
	for _, s := range []string{"zero", "one(USD)", "give(zero)", "and(zero, one(A))", "or(one(A), zero)", "scale(a + 1, zero)", "when(day >= 2024-01-31, one(USD))", "until(a | b, anytime(c, zero))"} {
		c, _, _ := parse.Parse(s)
		if got, err := Term(c); got != s || err != api.OK {
			t.Errorf("%q: %q %d", s, got, err)
		}
	}
}

// P20.1
func TestLines(t *testing.T) {
	for s, want := range map[string]string{
		"zero": "zero", "one(USD)": "one(USD)", "give(zero)": "give(\n  zero\n)", "and(zero, one(A))": "and(\n  zero,\n  one(A)\n)",
		"when(day > 1 & a, give(scale(min(b, 2), one(USD))))": "when(\n  day > 1 & a,\n  give(\n    scale(\n      min(b, 2),\n      one(USD)\n    )\n  )\n)",
	} {
		c, _, _ := parse.Parse(s)
		if got, err := Lines(c); got != want || err != api.OK {
			t.Errorf("%q: %q %d", s, got, err)
		}
	}
}

// P20.1
func TestWrong(t *testing.T) {
	for _, c := range []T{{}, {Op: api.TOne}, {Op: api.TGive}, {Op: 99}} {
		if s, err := Term(c); s != "" || err != api.ErrArg {
			t.Error(s, err)
		}
		if s, err := Lines(c); s != "" || err != api.ErrArg {
			t.Error(s, err)
		}
	}
	for _, e := range []E{{}, {Op: api.EConst, N: -1}, {Op: api.EAdd}, {Op: 99}, {Op: -5}} {
		if s, err := Expr(e); s != "" || err != api.ErrArg {
			t.Error(s, err)
		}
	}
	long := func(n int) E { // n nodes that stand by themselves, of 16 bytes each
		l := make([]E, n)
		for i := range l {
			l[i] = E{Op: api.EConst, N: math.MaxInt64}
		}
		for len(l) > 1 {
			var up []E
			for i := 0; i+1 < len(l); i += 2 {
				up = append(up, E{Op: api.EMin, Args: l[i : i+2 : i+2]})
			}
			l = append(up, l[len(l)/2*2:]...)
		}
		return l[0]
	}
	e := long(99)
	if s, err := Expr(e); err != api.OK || len(s) > 4000 {
		t.Error(len(s), err)
	}
	c := T{Op: api.TScale, Exprs: []E{e}, Terms: []T{{Op: api.TZero}}}
	if s, err := Term(c); len(s) == 0 || err != api.OK {
		t.Error(len(s), err)
	}
	// On lines of their own, deep ones are longer than as a text.
	one := T{Op: api.TOne, Name: "a234567890123456"}
	wide := one
	for range 5 {
		wide = T{Op: api.TAnd, Terms: []T{wide, wide}}
	}
	for range 8 {
		wide = T{Op: api.TGive, Terms: []T{wide}}
	}
	wide = T{Op: api.TOr, Terms: []T{wide, wide}}
	s, err := Term(wide)
	if err != api.OK || len(s) > 4000 {
		t.Fatal(len(s), err)
	}
	if s, err := Lines(wide); s != "" || err != api.ErrLong {
		t.Error(len(s), err)
	}
}

func randomExpr(r *rand.Rand, k int) E {
	if k == 0 || r.Intn(5) == 0 {
		return []E{{Op: api.EConst, N: int64(r.Uint64() >> (1 + r.Intn(63)))}, {Op: api.EObs, Name: "S_x9"}, {Op: api.EObs, Name: "A"}, {Op: api.EToday}, {Op: api.EDay, N: int64(r.Intn(api.MaxDay + 1))}}[r.Intn(5)]
	}
	e := E{Op: api.EAdd + r.Intn(api.EIf-api.EAdd+1)}
	n := 2
	if e.Op == api.ENot || e.Op == api.ENeg {
		n = 1
	} else if e.Op == api.EIf {
		n = 3
	}
	for range n {
		e.Args = append(e.Args, randomExpr(r, k-1))
	}
	return e
}

func random(r *rand.Rand, k int) T {
	if k == 0 || r.Intn(6) == 0 {
		return []T{{Op: api.TZero}, {Op: api.TOne, Name: "USD"}}[r.Intn(2)]
	}
	t := T{Op: api.TGive + r.Intn(7), Terms: []T{random(r, k-1)}}
	switch t.Op {
	case api.TGive:
	case api.TAnd, api.TOr:
		t.Terms = append(t.Terms, random(r, k-1))
	default:
		t.Exprs = []E{randomExpr(r, 3)}
	}
	return t
}

// P20.2
func TestBack(t *testing.T) {
	r := rand.New(rand.NewSource(1))
	for range 20000 {
		if e := randomExpr(r, 1+r.Intn(6)); term.RightExpr(e) {
			s, err := Expr(e)
			if got, at, perr := parse.ParseExpr(s); err == api.OK && (perr != api.OK || !term.SameExpr(got, e)) {
				t.Fatal(s, at, perr)
			}
			if strings.Count(s, "(") != strings.Count(s, ")") {
				t.Fatal(s)
			}
		}
		c := random(r, 1+r.Intn(6))
		for _, f := range []func(T) (string, api.Errno){Term, Lines} {
			s, err := f(c)
			if err == api.ErrArg && term.Right(c) {
				t.Fatal(c)
			}
			if got, at, perr := parse.Parse(s); err == api.OK && (perr != api.OK || !term.Same(got, c)) {
				t.Fatal(s, at, perr)
			}
		}
	}
}

// P20.1: no parentheses that needn't be: without any pair of them it is another one, or none
func TestParentheses(t *testing.T) {
	r := rand.New(rand.NewSource(2))
	for range 3000 {
		e := randomExpr(r, 4)
		s, err := Expr(e)
		if err != api.OK {
			continue
		}
		for i := range s {
			if s[i] != '(' || i > 0 && s[i-1] != ' ' && s[i-1] != '(' && s[i-1] != '-' && s[i-1] != '!' {
				continue
			}
			j, open := i, 0
			for {
				if s[j] == '(' {
					open++
				} else if s[j] == ')' {
					open--
				}
				if open == 0 {
					break
				}
				j++
			}
			if got, _, err := parse.ParseExpr(s[:i] + s[i+1:j] + s[j+1:]); err == api.OK && term.SameExpr(got, e) {
				t.Fatal(s, i)
			}
		}
	}
}
