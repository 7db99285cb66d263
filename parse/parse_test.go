package parse

import (
	"math"
	"strings"
	"testing"

	"debenture/api"
	"debenture/term"
)

type (
	E = api.Expr
	T = api.Term
)

func n(n int64) E           { return E{Op: api.EConst, N: n} }
func o(s string) E          { return E{Op: api.EObs, Name: s} }
func x(op int, l ...E) E    { return E{Op: op, Args: l} }
func one(s string) T        { return T{Op: api.TOne, Name: s} }
func of(op int, l ...T) T   { return T{Op: op, Terms: l} }
func by(op int, e E, c T) T { return T{Op: op, Exprs: []E{e}, Terms: []T{c}} }

var (
	zero    = T{Op: api.TZero}
	a, b, c = o("a"), o("b"), o("c")
	today   = E{Op: api.EToday}
)

// P19.1
func TestTerms(t *testing.T) {
	for s, want := range map[string]T{
		"zero":                              zero,
		"one(USD)":                          one("USD"),
		" one ( USD ) # remark":             one("USD"),
		"give(zero)":                        of(api.TGive, zero),
		"and(zero, one(A))":                 of(api.TAnd, zero, one("A")),
		"or(one(A),zero)":                   of(api.TOr, one("A"), zero),
		"scale(a, zero)":                    by(api.TScale, a, zero),
		"when(day >= 2024-01-31, one(USD))": by(api.TWhen, x(api.EGe, today, E{Op: api.EDay, N: 19753}), one("USD")),
		"until(a,anytime(b,zero))":          by(api.TUntil, a, by(api.TAnytime, b, zero)),
	} {
		got, at, err := Parse(s)
		if !term.Same(got, want) || at != 0 || err != api.OK {
			t.Error(s, got, at, err)
		}
	}
}

// P19.1
func TestExprs(t *testing.T) {
	for s, want := range map[string]E{
		"a": a, "(a)": a, "day": today, "7": n(7), "9223372036854775807": n(math.MaxInt64), "1970-01-02": {Op: api.EDay, N: 1},
		"a - b - c": x(api.ESub, x(api.ESub, a, b), c), "a - (b - c)": x(api.ESub, a, x(api.ESub, b, c)),
		"a + b * c": x(api.EAdd, a, x(api.EMul, b, c)), "a * b + c": x(api.EAdd, x(api.EMul, a, b), c), "a / b * c": x(api.EMul, x(api.EDiv, a, b), c),
		"a | b & c": x(api.EEither, a, x(api.EBoth, b, c)), "a & b | c": x(api.EEither, x(api.EBoth, a, b), c), "a | b | c": x(api.EEither, x(api.EEither, a, b), c), "a & b & c": x(api.EBoth, x(api.EBoth, a, b), c),
		"a < b & b <= c": x(api.EBoth, x(api.ELt, a, b), x(api.ELe, b, c)), "a = b | b != c": x(api.EEither, x(api.EEq, a, b), x(api.ENe, b, c)), "a > b + c": x(api.EGt, a, x(api.EAdd, b, c)), "a >= b": x(api.EGe, a, b),
		"(a < b) < c": x(api.ELt, x(api.ELt, a, b), c), "!a = b": x(api.EEq, x(api.ENot, a), b), "-a * b": x(api.EMul, x(api.ENeg, a), b), "a - -b": x(api.ESub, a, x(api.ENeg, b)), "--a": x(api.ENeg, x(api.ENeg, a)), "!-!a": x(api.ENot, x(api.ENeg, x(api.ENot, a))), "!(a & b)": x(api.ENot, x(api.EBoth, a, b)),
		"min(a, b)": x(api.EMin, a, b), "max(a | b, c)": x(api.EMax, x(api.EEither, a, b), c), "if(a < b, b, c) + 1": x(api.EAdd, x(api.EIf, x(api.ELt, a, b), b, c), n(1)), "a - 1": x(api.ESub, a, n(1)), "2024-1-1": x(api.ESub, x(api.ESub, n(2024), n(1)), n(1)),
	} {
		got, at, err := ParseExpr(s)
		if !term.SameExpr(got, want) || at != 0 || err != api.OK {
			t.Error(s, got, at, err)
		}
	}
}

// P19.1
func TestPlaces(t *testing.T) {
	for s, want := range map[string]int{
		"": 0, "  ": 2, "zero zero": 5, "one": 3, "one ": 4, "one(": 4, "one()": 4, "one(zero)": 4, "one(day)": 4, "one(1)": 4, "one(USD": 7, "one(USD,": 7, "one(USD))": 8, "USD": 0, "(zero)": 0, "1": 0, "give zero": 5, "give()": 5, "give(zero, zero)": 9,
		"and(zero)": 8, "and(zero, )": 10, "and(zero, zero": 14, "or(zero, a)": 9, "scale(zero, zero)": 6, "scale(a)": 7, "scale(a b)": 8, "scale(a, a)": 9, "scale(, zero)": 6, "when(a,": 7, "zero()": 4, "scale(a, zero) # x": -1,
		"scale(a < b < c, zero)": 12, "scale(a = b = c, zero)": 12, "scale(a +, zero)": 9, "scale(*a, zero)": 6, "scale(!, zero)": 7, "scale((a, zero)": 8, "scale(min(a), zero)": 11, "scale(min a, zero)": 10, "scale(if(a, b), zero)": 13, "scale(if(a, b, c, d), zero)": 16, "scale(and, zero)": 6, "scale(a a, zero)": 8, "scale(day day, zero)": 10, "scale(min(a, b, c), zero)": 14, "scale(1 2024-01-31, zero)": 8, "min(a, b)": 0, "zero, zero": 4,
		"scale(a, zero) $": 15, "$ scale(": 0, "one(USD) 01": 9, "scale(a < b > c, zero)": 12, "scale(a & & b, zero)": 10, "scale((), zero)": 7, "scale(-(-), zero)": 9,
	} {
		got, at, err := Parse(s)
		if want < 0 {
			if err != api.OK {
				t.Error(s, at, err)
			}
		} else if !term.Same(got, T{}) || at != want || err != api.ErrParse {
			t.Errorf("%q: %d %d, want %d", s, at, err, want)
		}
	}
	for s, want := range map[string]int{"": 0, "a b": 2, "zero": 0, "one(USD)": 0, "a)": 1, "(a": 2, "a,": 1, "a +": 3, "1 + + 2": 4, "min": 3, "when": 0, "a $": 2} {
		got, at, err := ParseExpr(s)
		if !term.SameExpr(got, E{}) || at != want || err != api.ErrParse {
			t.Errorf("%q: %d %d, want %d", s, at, err, want)
		}
	}
}

// P19.1
func TestLong(t *testing.T) {
	if _, at, err := Parse("zero" + strings.Repeat(" ", 3997)); at != 0 || err != api.ErrLong {
		t.Error(at, err)
	}
	if got, _, err := Parse("zero" + strings.Repeat(" ", 3996)); !term.Same(got, zero) || err != api.OK {
		t.Error(err)
	}
	if _, at, err := ParseExpr(strings.Repeat("$", 4001)); at != 0 || err != api.ErrLong {
		t.Error(at, err)
	}
}

// P19.1
func TestDeep(t *testing.T) {
	rep := strings.Repeat
	for _, c := range []struct {
		s   string
		at  int
		err api.Errno
	}{
		{rep("(", 64) + "a" + rep(")", 64), 0, api.OK}, {rep("(", 65) + "a" + rep(")", 65), 0, api.ErrDeep}, {rep("(", 65), 0, api.ErrDeep}, {rep("(", 64), 64, api.ErrParse}, {rep("(", 64) + ",", 64, api.ErrParse}, {rep("(", 64) + "-", 0, api.ErrDeep},
		{rep("-", 15) + "a", 0, api.OK}, {rep("-", 16) + "a", 0, api.ErrDeep}, {rep("-", 64) + ",", 64, api.ErrParse}, {rep("!", 65) + ",", 0, api.ErrDeep}, {rep("(-", 32) + ",", 64, api.ErrParse}, {rep("(-", 33) + ",", 0, api.ErrDeep},
		{rep("min(", 64) + ",", 256, api.ErrParse}, {rep("if(", 65) + ",", 0, api.ErrDeep}, {rep("(a)+", 99) + "a", 0, api.ErrDeep}, {rep("-a+", 10) + "a", 0, api.OK}, {"(a b" + rep("(", 99), 3, api.ErrParse}, {rep("(", 65) + "$", 65, api.ErrParse},
		{rep("a|", 14) + "a", 0, api.OK}, {rep("a|", 15) + "a", 0, api.OK}, {rep("a|", 16) + "a", 0, api.ErrDeep}, {rep("a|", 1500) + "a", 0, api.ErrDeep}, {rep("a|", 1500) + "a|", 3002, api.ErrParse},
	} {
		if _, at, err := ParseExpr(c.s); at != c.at || err != c.err {
			t.Errorf("%.20q %d: %d %d", c.s, len(c.s), at, err)
		}
	}
	for _, c := range []struct {
		s   string
		at  int
		err api.Errno
	}{
		{rep("give(", 15) + "zero" + rep(")", 15), 0, api.OK}, {rep("give(", 16) + "zero" + rep(")", 16), 0, api.ErrDeep}, {rep("give(", 64), 320, api.ErrParse}, {rep("give(", 65), 0, api.ErrDeep}, {rep("give(", 64) + "one(", 0, api.ErrDeep}, {rep("give(", 64) + "one", 323, api.ErrParse},
		{rep("scale(a, ", 64) + "scale", 64*9 + 5, api.ErrParse}, {rep("and(zero, ", 14) + "zero" + rep(")", 14), 0, api.OK},
	} {
		if _, at, err := Parse(c.s); at != c.at || err != c.err {
			t.Errorf("%.20q %d: %d %d", c.s, len(c.s), at, err)
		}
	}
	// What is closed isn't open any more.
	closed, signs := "one(USD)", "-a"
	for range 6 {
		closed, signs = "and("+closed+","+closed+")", "min("+signs+",("+signs+"))"
	}
	if c, at, err := Parse(closed); at != 0 || err != api.OK || !term.Right(c) {
		t.Error(at, err)
	}
	if e, at, err := ParseExpr(signs); at != 0 || err != api.OK || !term.RightExpr(e) {
		t.Error(at, err)
	}
	wide := "zero"
	for range 7 {
		wide = "and(" + wide + "," + wide + ")"
	}
	if _, at, err := Parse(wide); at != 0 || err != api.ErrDeep {
		t.Error("too great", at, err)
	}
}

// P19.2
func TestMore(t *testing.T) {
	want, _, _ := Parse("when(a+b*c<=7&!d,or(one(USD),zero))")
	for _, s := range []string{"when ( a + b * c <= 7 & ! d , or ( one ( USD ) , zero ) )", "when(((a)+((b*c)))<=(7)&(!(d)),or(one(USD),zero))", "# a\nwhen(a#b\n+b*c<=\t7&!d,or(one(USD),zero))#", "when(((a+b*c)<=7)&!d,or(one(USD),zero))"} {
		if got, _, err := Parse(s); !term.Same(got, want) || err != api.OK {
			t.Error(s, err)
		}
	}
}

// P19.1: every text is a term's, or has an error and a place
func FuzzParse(f *testing.F) {
	for _, s := range []string{"when(day >= 2024-01-31, one(USD))", "scale(min(a, -b) / 2, zero)", "((((", "if(", "2024-01-3", "until(!(a | b) = c, zero)"} {
		f.Add(s)
	}
	f.Fuzz(func(t *testing.T, s string) {
		got, at, err := Parse(s)
		if (err == api.OK) != term.Right(got) || at < 0 || at > len(s) || err != api.ErrParse && at != 0 {
			t.Error(got, at, err)
		}
		ParseExpr(s)
	})
}
