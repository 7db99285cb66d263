package life

import (
	"math"
	"math/rand"
	"reflect"
	"slices"
	"strings"
	"testing"

	"debenture/api"
	"debenture/check"
	"debenture/obs"
	"debenture/parse"
	"debenture/print"
	"debenture/term"
)

func contract(t *testing.T, s string) api.Term {
	t.Helper()
	c, _, err := parse.Parse(s)
	if err != api.OK {
		t.Fatal(s, err)
	}
	return c
}

func expr(t *testing.T, s string) api.Expr {
	t.Helper()
	e, _, err := parse.ParseExpr(s)
	if err != api.OK {
		t.Fatal(s, err)
	}
	return e
}

func env(day int, l ...any) obs.Env {
	v := obs.Env{Day: day}
	for i := 0; i < len(l); i += 2 {
		v.Fixings = append(v.Fixings, obs.Fixing{Name: l[i].(string), Value: int64(l[i+1].(int))})
	}
	return v
}

// told is parts and flows as a text.
func told(l []Part, f []Flow) string {
	var s []string
	for _, p := range l {
		x := itoa(p.Factor)
		if p.Turned {
			x += " turned"
		}
		for _, e := range p.Until {
			u, _ := print.Expr(e)
			x += " until " + u
		}
		u, _ := print.Term(p.Term)
		s = append(s, x+" "+u)
	}
	for _, x := range f {
		s = append(s, itoa(x.Amount)+" "+x.Coin)
	}
	return strings.Join(s, "; ")
}

func itoa(n int64) string {
	s, _ := print.Expr(api.Expr{Op: api.EConst, N: max(n, -n)})
	if n < 0 {
		s = "-" + s
	}
	return s
}

// P23.1
func TestStart(t *testing.T) {
	v := env(19723, "A", 10, "B", 0, "N", -3)
	for s, want := range map[string]string{
		"zero": "", "one(USD)": "1 USD", "give(one(USD))": "-1 USD", "give(give(one(USD)))": "1 USD", "and(one(USD), one(EUR))": "1 USD; 1 EUR", "scale(A, one(USD))": "10 USD", "scale(B, one(USD))": "", "scale(N, give(one(USD)))": "3 USD", "scale(A, scale(N, one(USD)))": "-30 USD",
		"scale(X, one(USD))": "1 scale(X, one(USD))", "give(scale(X, one(USD)))": "-1 turned scale(X, one(USD))", "scale(A, give(scale(X, one(USD))))": "-10 turned scale(X, one(USD))",
		"when(A = 10, one(USD))": "1 USD", "when(A = 11, one(USD))": "1 when(A = 11, one(USD))", "when(X = 1, one(USD))": "1 when(X = 1, one(USD))", "until(A = 10, one(USD))": "", "until(A = 11, one(USD))": "1 USD", "until(X = 1, one(USD))": "1 USD",
		"until(X = 1, until(A = 11, when(A = 12, zero)))": "1 until X = 1 until A = 11 when(A = 12, zero)", "until(X = 1, and(or(zero, zero), until(A = 11, or(one(USD), zero))))": "1 until X = 1 or(zero, zero); 1 until X = 1 until A = 11 or(one(USD), zero)",
		"or(one(USD), one(EUR))": "1 or(one(USD), one(EUR))", "anytime(A = 10, one(USD))": "1 anytime(A = 10, one(USD))", "anytime(1 / 0 = 1, zero)": "1 anytime(1 / 0 = 1, zero)", "give(give(or(zero, zero)))": "1 or(zero, zero)", "and(scale(X, zero), and(one(USD), when(day >= 2024-01-01, give(one(EUR)))))": "1 scale(X, zero); 1 USD; -1 EUR",
		"scale(B, scale(X, one(USD)))": "0 scale(X, one(USD))", "when(A = 11, scale(1 / 0, zero))": "1 when(A = 11, scale(1 / 0, zero))", "until(A = 10, scale(1 / 0, zero))": "",
	} {
		l, f, err := Start(contract(t, s), v)
		if told(l, f) != want || err != api.OK {
			t.Errorf("%s: %s %d", s, told(l, f), err)
		}
	}
	for s, want := range map[string]api.Errno{
		"scale(9223372036854775807 * 2, one(USD))": api.ErrRange, "scale(1 / 0, zero)": api.ErrRange, "when(1 / 0 = 1, zero)": api.ErrRange, "until(1 / 0 = 1, zero)": api.ErrRange, "scale(9223372036854775807, scale(2, zero))": api.ErrRange, "scale(-9223372036854775807 - 1, give(zero))": api.ErrRange, "scale(-9223372036854775807 - 1, one(USD))": api.OK,
		"and(one(USD), scale(1 / 0, zero))": api.ErrRange, "and(scale(1 / 0, zero), scale(X, zero))": api.ErrRange, "scale(9223372036854775807, scale(2, zero)) # parts": api.ErrRange, "when(1, zero)": api.ErrType, "scale(B, scale(9223372036854775807, scale(2, one(USD))))": api.OK,
	} {
		l, f, err := Start(contract(t, s), v)
		if err != want || err != api.OK && (l != nil || f != nil) {
			t.Error(s, err)
		}
	}
	if _, _, err := Start(api.Term{}, v); err != api.ErrArg {
		t.Error(err)
	}
}

// P23.1
func TestRight(t *testing.T) {
	or, u := contract(t, "or(zero, zero)"), expr(t, "A = 1")
	many := func(n int) []api.Expr { return slices.Repeat([]api.Expr{u}, n) }
	for i, l := range [][]Part{nil, {{Term: or}}, {{1, true, many(16), or}}, {{Term: contract(t, "scale(A, zero)")}, {Term: contract(t, "when(A = 1, zero)")}, {Term: contract(t, "anytime(A = 1, zero)")}}, slices.Repeat([]Part{{Term: or}}, 66), append(slices.Repeat([]Part{{Term: or}}, 65), Part{Term: contract(t, "or(zero, or(zero, zero))")})} {
		if !Right(l) {
			t.Error(i)
		}
	}
	for i, l := range [][]Part{{{}}, {{Term: contract(t, "zero")}}, {{Term: contract(t, "one(A)")}}, {{Term: contract(t, "give(or(zero, zero))")}}, {{Term: contract(t, "and(zero, zero)")}}, {{Term: contract(t, "until(A = 1, zero)")}}, {{Term: contract(t, "when(A, zero)")}}, {{1, true, many(17), or}}, {{Term: or, Until: []api.Expr{expr(t, "A")}}}, {{Term: or, Until: []api.Expr{{}}}}, slices.Repeat([]Part{{Term: or}}, 67), {{Term: or}, {}}} {
		if Right(l) {
			t.Error("wrong", i)
		}
		if p, f, err := Step(l, obs.Env{}); p != nil || f != nil || err != api.ErrArg {
			t.Error(i, err)
		}
		if p, f, err := Choose(l, obs.Env{}, -1, 7, false); p != nil || f != nil || err != api.ErrArg {
			t.Error(i, err)
		}
		if Choices(l, obs.Env{}) != nil {
			t.Error(i)
		}
	}
}

// P23.2
func TestStep(t *testing.T) {
	start := contract(t, "and(scale(X, give(or(one(USD), zero))), and(until(Y > 5, when(Z = 1, one(EUR))), anytime(X = 1, one(JPY))))")
	l, f, err := Start(start, env(0))
	if told(l, f) != "1 scale(X, give(or(one(USD), zero))); 1 until Y > 5 when(Z = 1, one(EUR)); 1 anytime(X = 1, one(JPY))" || err != api.OK {
		t.Fatal(told(l, f))
	}
	before := told(l, f)
	for _, c := range []struct {
		v    obs.Env
		want string
	}{
		{env(0), before}, {env(0, "X", 3), "-3 turned or(one(USD), zero); 1 until Y > 5 when(Z = 1, one(EUR)); 1 anytime(X = 1, one(JPY))"}, {env(0, "Z", 1), "1 scale(X, give(or(one(USD), zero))); 1 anytime(X = 1, one(JPY)); 1 EUR"},
		{env(0, "Z", 1, "Y", 6), "1 scale(X, give(or(one(USD), zero))); 1 anytime(X = 1, one(JPY))"}, {env(0, "Y", 5), before}, {env(0, "X", 1, "Z", 1), "-1 turned or(one(USD), zero); 1 anytime(X = 1, one(JPY)); 1 EUR"},
	} {
		p, f, err := Step(l, c.v)
		if told(p, f) != c.want || err != api.OK || told(l, nil) != before {
			t.Error(c.v, told(p, f), err)
		}
	}
	for s, want := range map[string]api.Errno{"until(Q / X = 1, or(zero, zero))": api.ErrRange, "until(Q = Q, until(Q / X = 1, or(zero, zero)))": api.ErrRange, "scale(Q / X, zero)": api.ErrRange, "when(Q / X = 1, zero)": api.ErrRange, "when(Q = 0, scale(1 / 0, zero))": api.ErrRange, "anytime(Q / X = 1, zero)": api.OK, "until(Q = Q, scale(Q / X, zero))": api.OK, "scale(9223372036854775807, scale(Q + 2, zero))": api.ErrRange} {
		l, _, err := Start(contract(t, s), env(0))
		if err != api.OK {
			t.Fatal(s, err)
		}
		p, f, err := Step(l, env(0, "Q", 0, "X", 0))
		if err != want || err != api.OK && (p != nil || f != nil) {
			t.Error(s, err)
		}
	}
	p, f, err := Step(nil, env(0))
	if p != nil || f != nil || err != api.OK {
		t.Error(err)
	}
}

// P23.2, P23.3: example
func TestExample(t *testing.T) {
	l, f, _ := Start(contract(t, "and(one(USD), when(day >= 2024-01-01, one(EUR)))"), env(0))
	if told(l, f) != "1 when(day >= 2024-01-01, one(EUR)); 1 USD" {
		t.Error(told(l, f))
	}
	if l, f, _ = Step(l, env(19723)); told(l, f) != "1 EUR" {
		t.Error(told(l, f))
	}
}

// P23.3
func TestChoose(t *testing.T) {
	l, _, err := Start(contract(t, "and(or(one(USD), give(or(one(EUR), zero))), and(give(or(one(JPY), zero)), and(until(U = 1, anytime(A = 1, one(CHF))), and(until(B / C = 1, scale(S, zero)), anytime(B / C = 1, zero)))))"), env(0))
	if err != api.OK || len(l) != 5 {
		t.Fatal(told(l, nil), err)
	}
	rest := func(from int) string { return told(l[from:], nil) }
	v, on := env(0), env(0, "A", 1)
	for i, c := range []struct {
		v         obs.Env
		at, which int
		turned    bool
		want      string
		err       api.Errno
	}{
		{v, 0, 0, false, rest(1) + "; 1 USD", api.OK}, {v, 0, 1, false, "-1 turned or(one(EUR), zero); " + rest(1), api.OK}, {v, 0, 2, false, "", api.ErrArg}, {v, 0, -1, false, "", api.ErrArg}, {v, 0, 5, true, "", api.ErrWho},
		{v, 1, 0, true, told(l[:1], nil) + "; " + rest(2) + "; -1 JPY", api.OK}, {v, 1, 0, false, "", api.ErrWho}, {v, -1, 0, false, "", api.ErrNone}, {v, 5, 9, false, "", api.ErrNone}, {v, math.MaxInt, 0, false, "", api.ErrNone},
		{v, 2, 0, false, "", api.ErrState}, {on, 2, 0, false, told(l[:2], nil) + "; " + rest(3) + "; 1 CHF", api.OK}, {on, 2, 1, false, "", api.ErrArg}, {on, 2, 1, true, "", api.ErrWho}, {env(0, "A", 1, "U", 1), 2, 1, true, "", api.ErrState}, {env(0, "A", 1, "U", 2), 2, 0, false, told(l[:2], nil) + "; " + rest(3) + "; 1 CHF", api.OK}, {env(0, "A", 2), 2, 0, false, "", api.ErrState},
		{v, 3, 0, false, "", api.ErrState}, {env(0, "B", 1, "C", 0), 3, 0, true, "", api.ErrRange}, {v, 4, 0, false, "", api.ErrState}, {env(0, "B", 1, "C", 0), 4, 0, false, "", api.ErrRange}, {env(0, "B", 1, "C", 0), 4, 1, false, "", api.ErrArg}, {env(0, "B", 1, "C", 0), 4, 0, true, "", api.ErrWho},
	} {
		p, f, err := Choose(l, c.v, c.at, c.which, c.turned)
		if told(p, f) != c.want || err != c.err {
			t.Errorf("%d: %s %d", i, told(p, f), err)
		}
	}
	for i, c := range []struct {
		v    obs.Env
		want []int
	}{{v, []int{0, 1}}, {on, []int{0, 1, 2}}, {env(0, "A", 1, "U", 1), []int{0, 1}}, {env(0, "B", 1, "C", 1), []int{0, 1, 4}}, {env(0, "B", 1, "C", 0), []int{0, 1}}} {
		if got := Choices(l, c.v); !slices.Equal(got, c.want) {
			t.Error(i, got)
		}
	}
	broken, _, _ := Start(contract(t, "and(or(scale(1 / 0, zero), zero), until(B / C = 1, or(zero, zero)))"), env(0))
	if p, _, err := Choose(broken, v, 0, 0, false); p != nil || err != api.ErrRange {
		t.Error(err)
	}
	if got := Choices(broken, env(0, "B", 1, "C", 0)); !slices.Equal(got, []int{0}) {
		t.Error(got)
	}
}

// P23.3
func TestTotal(t *testing.T) {
	const big = math.MaxInt64
	l, err := Total([]Flow{{"USD", big}, {"EUR", 5}, {"USD", big}, {"A", 7}, {"USD", -big}, {"EUR", -5}, {"USD", 1 - big}})
	if err != api.OK || !slices.Equal(l, []Flow{{"A", 7}, {"USD", 1}}) {
		t.Error(l, err)
	}
	if l, err = Total([]Flow{{"A", 1}, {"USD", big}, {"USD", 1}}); l != nil || err != api.ErrRange {
		t.Error(l, err)
	}
	if l, err = Total(nil); l != nil || err != api.OK {
		t.Error(l, err)
	}
}

func randomExpr(r *rand.Rand, truth bool) api.Expr {
	leaf := func() api.Expr {
		return []api.Expr{{Op: api.EConst, N: int64(r.Intn(4))}, {Op: api.EObs, Name: string(rune('A' + r.Intn(4)))}, {Op: api.EToday}}[r.Intn(3)]
	}
	if truth {
		return api.Expr{Op: api.ELt + r.Intn(6), Args: []api.Expr{leaf(), leaf()}}
	}
	if r.Intn(3) == 0 {
		return leaf()
	}
	return api.Expr{Op: api.EAdd + r.Intn(6), Args: []api.Expr{leaf(), leaf()}}
}

func random(r *rand.Rand, k int) api.Term {
	if k == 0 || r.Intn(7) == 0 {
		return []api.Term{{Op: api.TZero}, {Op: api.TOne, Name: "USD"}, {Op: api.TOne, Name: "EUR"}}[r.Intn(3)]
	}
	t := api.Term{Op: api.TGive + r.Intn(7), Terms: []api.Term{random(r, k-1)}}
	switch t.Op {
	case api.TGive:
	case api.TAnd, api.TOr:
		t.Terms = append(t.Terms, random(r, k-1))
	default:
		t.Exprs = []api.Expr{randomExpr(r, t.Op != api.TScale)}
	}
	return t
}

func opposite(l []Flow) []Flow {
	var o []Flow
	for _, f := range l {
		o = append(o, Flow{f.Coin, -f.Amount})
	}
	return o
}

func nodes(l []Part) int {
	n := 0
	for _, p := range l {
		k, _ := term.Size(p.Term)
		n += k
	}
	return n
}

// P23.4
func TestFollows(t *testing.T) {
	r := rand.New(rand.NewSource(1))
	for range 5000 {
		c := random(r, 6)
		if check.Fits(c) != api.OK {
			continue
		}
		v := obs.Env{Day: 1}
		l, f, err := Start(c, v)
		g, h, err2 := Start(api.Term{Op: api.TGive, Terms: []api.Term{c}}, v)
		size, _ := term.Size(c)
		for day := 1; day < 6; day++ {
			if err != err2 || !slices.Equal(h, opposite(f)) || len(l) != len(g) {
				t.Fatal("given", c)
			}
			if err != api.OK {
				break
			}
			if !Right(l) || nodes(l) > size {
				t.Fatal(told(l, f))
			}
			size = nodes(l)
			again, none, quiet := Step(l, v)
			if quiet != api.OK || none != nil || !reflect.DeepEqual(again, l) {
				t.Fatal("Step behind a Step", told(l, f), told(again, none), quiet)
			}
			v.Day = day
			v.Fixings = append(v.Fixings, obs.Fixing{Name: string(rune('A' + r.Intn(4))), Day: day, Value: int64(r.Intn(4))})
			if at := Choices(l, v); len(at) > 0 && r.Intn(2) == 0 {
				i := at[r.Intn(len(at))]
				g, h, err2 = Choose(g, v, i, 0, !l[i].Turned)
				l, f, err = Choose(l, v, i, 0, l[i].Turned)
			} else {
				l, f, err = Step(l, v)
				g, h, err2 = Step(g, v)
			}
			if err == api.OK {
				// A choice may leave others behind; a Step makes them quiet.
				l, _, err = Step(l, v)
				g, _, err2 = Step(g, v)
			}
		}
	}
}
