package engine

import (
	"fmt"
	"math/rand"
	"reflect"
	"slices"
	"strings"
	"testing"

	"debenture/api"
	"debenture/disk"
	"debenture/event"
	"debenture/ledger"
	"debenture/level"
	"debenture/lsm"
)

var small = level.Config{Zero: 2, Base: 3000, Times: 3, Table: 1000}

func want(t *testing.T, what string, got, want api.Errno) {
	t.Helper()
	if got != want {
		t.Fatalf("%s: %d, want %d", what, got, want)
	}
}

func opened(t *testing.T, d *disk.Disk) *Engine {
	t.Helper()
	g, err := Open(d, small)
	want(t, "Open", err, api.OK)
	return g
}

func fresh(t *testing.T) *Engine {
	t.Helper()
	return opened(t, disk.New(1<<23))
}

var reqs int

// ask is an ask with a Req of its own.
func ask(a Ask) Ask {
	reqs++
	a.Req = fmt.Sprint("r", reqs)
	return a
}

func open(id, text string) Ask {
	return ask(Ask{Kind: event.Opened, Id: id, A: "ann", B: "bob", Text: text})
}

func tick(day int) Ask { return ask(Ask{Kind: event.Ticked, Day: day}) }

func fix(name string, n int64) Ask { return ask(Ask{Kind: event.Fixed, A: name, N: n}) }

func choose(id, a string, at, which int) Ask {
	return ask(Ask{Kind: event.Chose, Id: id, A: a, At: at, Which: which})
}

func file(id string) Ask { return ask(Ask{Kind: event.Filed, Id: id}) }

func cancel(id, a string) Ask { return ask(Ask{Kind: event.Cancelled, Id: id, A: a}) }

func novate(id, a, b string) Ask { return ask(Ask{Kind: event.Novated, Id: id, A: a, B: b}) }

// do asks, and holds the moves, as texts, and the error.
func do(t *testing.T, g *Engine, a Ask, err api.Errno, moves ...string) {
	t.Helper()
	l, got := g.Do(a)
	var s []string
	for _, m := range l {
		s = append(s, fmt.Sprint(m.From, " ", m.To, " ", m.Coin, " ", m.Amount))
	}
	if got != err || !slices.Equal(s, moves) {
		t.Fatalf("%v: %v %d, want %v %d", a, s, got, moves, err)
	}
}

func books(t *testing.T, g *Engine) string {
	t.Helper()
	l, err := g.Books()
	want(t, "Books", err, api.OK)
	if !ledger.Even(l) {
		t.Fatal("not even", l)
	}
	var s []string
	for _, a := range l {
		if n, err := g.Balance(a.Party, a.Coin); n != a.Amount || err != api.OK {
			t.Fatal("Balance", a, n)
		}
		s = append(s, fmt.Sprint(a.Party, " ", a.Coin, " ", a.Amount))
	}
	return strings.Join(s, ", ")
}

func state(t *testing.T, g *Engine, id string) event.Contract {
	t.Helper()
	c, err := g.Contract(id)
	want(t, "Contract", err, api.OK)
	return c
}

// P26.1, P26.2, the document's examples
func TestExamples(t *testing.T) {
	g := fresh(t)
	do(t, g, open("c", "one(USD)"), api.OK, "bob ann USD 1")
	if c := state(t, g, "c"); c.State != event.Done || c.Parts != nil || c.Text != "one(USD)" || c.Holder != "ann" || c.Writer != "bob" || c.Ended != 0 {
		t.Error(c)
	}
	do(t, g, open("d", "when(day >= 2024-01-01,scale(SPX,one(USD)))"), api.OK)
	if c := state(t, g, "d"); c.State != event.Open || len(c.Parts) != 1 || c.Text != "when(day >= 2024-01-01, scale(SPX, one(USD)))" {
		t.Error(c)
	}
	do(t, g, tick(19723), api.OK)
	if c := state(t, g, "d"); c.Parts[0].Term.Op != api.TScale || g.Day() != 19723 {
		t.Error(c)
	}
	do(t, g, fix("SPX", 4000), api.OK, "bob ann USD 4000")
	if c := state(t, g, "d"); c.State != event.Done || c.Ended != 19723 || c.Born != 0 {
		t.Error(c)
	}
	do(t, g, open("e", "or(one(USD), one(EUR))"), api.OK)
	do(t, g, choose("e", "bob", 0, 1), api.ErrWho)
	do(t, g, choose("e", "ann", 0, 1), api.OK, "bob ann EUR 1")
	do(t, g, open("f", "give(or(one(USD), one(EUR)))"), api.OK)
	do(t, g, choose("f", "ann", 0, 1), api.ErrWho)
	do(t, g, choose("f", "bob", 0, 1), api.OK, "ann bob EUR 1")
	do(t, g, open("g", "until(SPX > 5000, anytime(day >= 2024-01-01, one(USD)))"), api.OK)
	do(t, g, tick(19724), api.OK)
	do(t, g, fix("SPX", 5001), api.OK)
	if c := state(t, g, "g"); c.State != event.Done {
		t.Error(c)
	}
	do(t, g, open("h", "scale(9223372036854775807 * 2, one(USD))"), api.ErrRange)
	if _, err := g.Contract("h"); err != api.ErrNone {
		t.Error(err)
	}
	do(t, g, file("f"), api.OK)
	if _, err := g.Contract("f"); err != api.ErrArchived {
		t.Error(err)
	}
	do(t, g, choose("f", "bob", 0, 1), api.ErrArchived)
	if s := books(t, g); s != "ann USD 4001, bob USD -4001" {
		t.Error(s)
	}
	want(t, "Audit", g.Audit(), api.OK)
}

// P26.1
func TestTwice(t *testing.T) {
	g := fresh(t)
	a := open("c", "one(USD)")
	do(t, g, a, api.OK, "bob ann USD 1")
	do(t, g, a, api.OK, "bob ann USD 1")
	b := a
	b.Text = "one( USD)"
	do(t, g, b, api.ErrTwice)
	b = tick(5)
	b.Req = a.Req
	do(t, g, b, api.ErrTwice)
	bad := open("c", "zero")
	do(t, g, bad, api.ErrTwice)
	bad.Id = "d"
	do(t, g, bad, api.OK)
	do(t, g, tick(9), api.OK)
	do(t, g, a, api.OK, "bob ann USD 1")
	if g.Count() != 3 || g.Day() != 9 {
		t.Error(g.Count(), g.Day())
	}
}

// P26.1
func TestRight(t *testing.T) {
	good := []Ask{open("c", "anything"), open("c", ""), tick(0), tick(api.MaxDay), fix("SPX", -5), choose("c", "ann", 199, 1), novate("c", "ann", "cid"), cancel("c", "ann"), file("c")}
	g := fresh(t)
	for _, a := range good {
		if !Right(a) {
			t.Error("right", a)
		}
		for i, f := range []func(*Ask){
			func(a *Ask) { a.Kind = 0 }, func(a *Ask) { a.Kind = 8 }, func(a *Ask) { a.Req = "" }, func(a *Ask) { a.Req = "a b" }, func(a *Ask) { a.Id = "1" }, func(a *Ask) { a.A = "a." }, func(a *Ask) { a.B = "b " }, func(a *Ask) { a.At = 200 }, func(a *Ask) { a.At = -1 }, func(a *Ask) { a.Which = 2 }, func(a *Ask) { a.Day = -1 }, func(a *Ask) { a.Day = api.MaxDay + 1 },
			func(a *Ask) {
				if a.Kind != event.Ticked {
					a.Day = 1
				} else {
					a.N = 1
				}
			},
			func(a *Ask) {
				if a.Kind != event.Opened {
					a.Text = "zero"
				} else {
					a.B = a.A
				}
			},
			func(a *Ask) {
				if a.Kind != event.Fixed {
					a.N = 1
				} else {
					a.Id = "x"
				}
			},
		} {
			b := a
			f(&b)
			if Right(b) {
				t.Error(i, b)
			}
			do(t, g, b, api.ErrArg)
		}
	}
}

// P26.1
func TestOpened(t *testing.T) {
	g := fresh(t)
	do(t, g, open("c", "or(zero, zero)"), api.OK)
	do(t, g, open("f", "zero"), api.OK)
	do(t, g, file("f"), api.OK)
	do(t, g, open("c", "$"), api.ErrTwice)
	do(t, g, open("f", "$"), api.ErrTwice)
	do(t, g, open("d", "$"), api.ErrParse)
	do(t, g, open("d", strings.Repeat(" ", 4001)), api.ErrLong)
	do(t, g, open("d", strings.Repeat("give(", 16)+"zero"+strings.Repeat(")", 16)), api.ErrDeep)
	do(t, g, open("d", "when(1, zero)"), api.ErrType)
	do(t, g, open("d", "scale(1 / 0, zero)"), api.ErrRange)
	do(t, g, open("d", "and(scale(9223372036854775807, one(USD)), one(USD))"), api.ErrRange)
	for i := range 39 {
		do(t, g, open(fmt.Sprint("x", i), "or(zero, zero)"), api.OK)
	}
	do(t, g, open("d", "when(1, zero)"), api.ErrType)
	do(t, g, open("d", "scale(1 / 0, zero)"), api.ErrBusy)
	do(t, g, open("d", "one(USD)"), api.ErrBusy)
	do(t, g, choose("x5", "ann", 0, 0), api.OK)
	do(t, g, open("d", "one(USD)"), api.OK, "bob ann USD 1")
	do(t, g, open("e", "scale(-9223372036854775807 - 1, one(USD))"), api.ErrRange)
	do(t, g, open("e", "scale(9223372036854775807, one(USD))"), api.ErrRange)
	do(t, g, open("e", "scale(9223372036854775806, one(USD))"), api.OK, "bob ann USD 9223372036854775806")
	want(t, "Audit", g.Audit(), api.OK)
	if g.Count() != 45 {
		t.Error(g.Count())
	}
}

// P26.1
func TestErrors(t *testing.T) {
	g := fresh(t)
	do(t, g, open("c", "and(or(one(USD), zero), anytime(1 / X = 1, zero))"), api.OK)
	do(t, g, open("d", "zero"), api.OK)
	do(t, g, open("f", "zero"), api.OK)
	do(t, g, file("f"), api.OK)
	for _, x := range []struct {
		a   Ask
		err api.Errno
	}{
		{choose("f", "ann", 0, 0), api.ErrArchived}, {choose("n", "ann", 0, 0), api.ErrNone}, {choose("d", "cid", 0, 0), api.ErrState}, {choose("c", "cid", 7, 0), api.ErrWho}, {choose("c", "ann", 2, 0), api.ErrNone}, {choose("c", "bob", 0, 1), api.ErrWho}, {choose("c", "ann", 1, 1), api.ErrArg}, {choose("c", "ann", 1, 0), api.ErrState},
		{novate("f", "ann", "cid"), api.ErrArchived}, {novate("n", "ann", "cid"), api.ErrNone}, {novate("d", "cid", "dan"), api.ErrState}, {novate("c", "cid", "bob"), api.ErrWho}, {novate("c", "ann", "bob"), api.ErrArg}, {novate("c", "bob", "ann"), api.ErrArg},
		{cancel("f", "ann"), api.ErrArchived}, {cancel("n", "ann"), api.ErrNone}, {cancel("d", "bob"), api.ErrState}, {cancel("c", "bob"), api.ErrWho}, {cancel("c", "cid"), api.ErrWho},
		{file("f"), api.ErrArchived}, {file("n"), api.ErrNone}, {file("c"), api.ErrState}, {tick(0), api.ErrState},
	} {
		do(t, g, x.a, x.err)
	}
	do(t, g, fix("X", 0), api.OK)
	do(t, g, fix("X", 0), api.ErrTwice)
	do(t, g, fix("Y", 0), api.OK)
	do(t, g, choose("c", "ann", 1, 0), api.ErrRange)
	do(t, g, tick(1), api.OK)
	last := disk.New(10000)
	do(t, opened(t, last), tick(api.MaxDay), api.OK)
	do(t, opened(t, last), tick(api.MaxDay), api.ErrState)
	if opened(t, last).Day() != api.MaxDay {
		t.Error("the last day")
	}
	do(t, g, tick(1), api.ErrState)
	do(t, g, fix("X", 2), api.OK)
	do(t, g, novate("c", "ann", "cid"), api.OK)
	do(t, g, novate("c", "bob", "ann"), api.OK)
	if c := state(t, g, "c"); c.Holder != "cid" || c.Writer != "ann" || len(c.Parts) != 2 {
		t.Error(c)
	}
	do(t, g, choose("c", "ann", 0, 0), api.ErrWho)
	do(t, g, choose("c", "cid", 0, 0), api.OK, "ann cid USD 1")
	do(t, g, cancel("c", "cid"), api.OK)
	if c := state(t, g, "c"); c.State != event.Void || c.Parts != nil || c.Ended != 1 {
		t.Error(c)
	}
	do(t, g, cancel("c", "cid"), api.ErrState)
	do(t, g, file("c"), api.OK)
	if c, err := g.Filed("c"); c.State != event.Void || err != api.OK {
		t.Error(c, err)
	}
	if _, err := g.Filed("d"); err != api.ErrNone {
		t.Error(err)
	}
	for _, id := range []string{"", "a.b", "\x00", strings.Repeat("x", 99)} {
		_, e1 := g.Contract(id)
		_, e2 := g.Filed(id)
		_, e3 := g.Balance(id, "USD")
		_, e4 := g.Balance("ann", id)
		if e1 != api.ErrNone || e2 != api.ErrNone || e3 != api.ErrArg || e4 != api.ErrArg {
			t.Error(id, e1, e2, e3, e4)
		}
	}
	ids, _ := g.Ids()
	filed, err := g.Archive()
	if !slices.Equal(ids, []string{"d"}) || !slices.Equal(filed, []string{"c", "f"}) || err != api.OK {
		t.Error(ids, filed, err)
	}
	if n, err := g.Balance("zed", "USD"); n != 0 || err != api.OK {
		t.Error(n, err)
	}
	want(t, "Audit", g.Audit(), api.OK)
}

// P26.1: all of it or nothing; contracts go on by rising ids
func TestTogether(t *testing.T) {
	g := fresh(t)
	do(t, g, open("b", "when(X = 1, and(one(USD), give(one(EUR))))"), api.OK)
	do(t, g, open("a", "scale(X, one(USD))"), api.OK)
	do(t, g, open("z", "when(X > 5, scale(1 / (X - 7), zero))"), api.OK)
	do(t, g, fix("X", 7), api.ErrRange)
	if c := state(t, g, "a"); c.State != event.Open || g.Count() != 3 {
		t.Error(c)
	}
	do(t, g, fix("X", 1), api.OK, "bob ann USD 1", "ann bob EUR 1", "bob ann USD 1")
	if s := books(t, g); s != "ann EUR -1, ann USD 2, bob EUR 1, bob USD -2" {
		t.Error(s)
	}
	do(t, g, tick(3), api.OK)
	do(t, g, open("y", "scale(X, give(scale(2, one(EUR))))"), api.OK, "ann bob EUR 2")
	l, err := g.Events(0, 99)
	if err != api.OK || len(l) != g.Count() || l[3] != (event.Event{Kind: event.Fixed, A: "X", N: 1}) || l[4] != (event.Event{Kind: event.Ticked, Day: 3}) || l[5].Day != 3 || l[5].Kind != event.Opened {
		t.Error(l, err)
	}
	for _, c := range []struct{ from, most, n int }{{0, 0, 0}, {2, 2, 2}, {5, 9, 1}, {6, 1, 0}, {1 << 62, 1 << 62, 0}, {1, 1<<63 - 1, 5}} {
		m, err := g.Events(c.from, c.most)
		if err != api.OK || len(m) != c.n || c.n > 0 && !slices.Equal(m, l[c.from:c.from+c.n]) {
			t.Error(c, m, err)
		}
	}
	for _, c := range [][2]int{{-1, 0}, {0, -1}} {
		if m, err := g.Events(c[0], c[1]); m != nil || err != api.ErrArg {
			t.Error(c, err)
		}
	}
}

// P26.1: what is stored
func TestPairs(t *testing.T) {
	g := fresh(t)
	do(t, g, tick(5), api.OK)
	do(t, g, fix("SPX", -3), api.OK)
	a := Ask{Kind: event.Opened, Req: "req", Id: "c", A: "ann", B: "bob", Text: "one( USD)"}
	do(t, g, a, api.OK, "bob ann USD 1")
	for k, v := range map[string]string{
		"m": "\x05\x03", "b.ann.USD": "\x02", "b.bob.USD": "\x01", "f.SPX.2932891": "\x05", "e.0000000000": "\x02\x00\x00\x00\x00\x05\x00\x00\x00",
		"c.c": "\x01c\x03ann\x03bob\x08one(USD)\x05\x05\x02\x00\x00", "e.0000000002": "\x01\x01c\x03ann\x03bob\x08one(USD)\x05\x00\x00\x00",
		"e.0000000001": "\x03\x00\x03SPX\x00\x00\x05\x00\x00\x05",
		"q.req":        "\x19\x01\x01c\x03ann\x03bob\x09one( USD)\x00\x00\x00\x00" + "\x01\x03bob\x03ann\x03USD\x02",
	} {
		if got, is, err := g.Store().Get(k); got != v || !is || err != api.OK {
			t.Errorf("%s: %q %v %d", k, got, is, err)
		}
	}
	do(t, g, file("c"), api.OK)
	if _, is, _ := g.Store().Get("c.c"); is {
		t.Error("it is a contract no more")
	}
	do(t, g, open("d", "give(one(USD))"), api.OK, "ann bob USD 1")
	l, _ := g.Store().Scan("b.", "b/", 99)
	if l != nil {
		t.Error("an amount that is 0", l)
	}
}

// P26.1, P26.2
func TestCorrupt(t *testing.T) {
	begin := func() *Engine {
		g := fresh(t)
		do(t, g, fix("X", 5), api.OK)
		do(t, g, open("c", "when(Y = X, one(USD))"), api.OK)
		do(t, g, open("d", "one(USD)"), api.OK, "bob ann USD 1")
		do(t, g, file("d"), api.OK)
		return g
	}
	for i, c := range []struct {
		op  lsm.Op
		ask func(*Engine) api.Errno
	}{
		{lsm.Op{Key: "c.c", Value: "junk"}, func(g *Engine) api.Errno { _, err := g.Contract("c"); return err }},
		{lsm.Op{Key: "c.c", Value: "junk"}, func(g *Engine) api.Errno { _, err := g.Do(tick(9)); return err }},
		{lsm.Op{Key: "c.x", Value: "junk"}, func(g *Engine) api.Errno { _, err := g.Do(tick(9)); return err }},
		{lsm.Op{Key: "a.d", Value: "junk"}, func(g *Engine) api.Errno { _, err := g.Filed("d"); return err }},
		{lsm.Op{Key: "b.ann.USD", Value: "junk"}, func(g *Engine) api.Errno { _, err := g.Balance("ann", "USD"); return err }},
		{lsm.Op{Key: "b.ann.USD", Value: "\x00"}, func(g *Engine) api.Errno { _, err := g.Books(); return err }},
		{lsm.Op{Key: "b.ann.USD", Value: "junk"}, func(g *Engine) api.Errno { _, err := g.Do(open("z", "one(USD)")); return err }},
		{lsm.Op{Key: "f.X.2932896", Value: "junk"}, func(g *Engine) api.Errno { _, err := g.Do(tick(9)); return err }},
		{lsm.Op{Key: "f.Y.9999999", Value: "\x00"}, func(g *Engine) api.Errno { _, err := g.Do(tick(9)); return err }},
		{lsm.Op{Key: "e.0000000001", Value: "junk"}, func(g *Engine) api.Errno { _, err := g.Events(0, 9); return err }},
		{lsm.Op{Key: "e.0000000001", Gone: true}, func(g *Engine) api.Errno { _, err := g.Events(0, 9); return err }},
		{lsm.Op{Key: "q.r", Value: "junk"}, func(g *Engine) api.Errno { a := tick(9); a.Req = "r"; _, err := g.Do(a); return err }},
		{lsm.Op{Key: "e.0000000004", Value: "\x02\x00\x00\x00\x00\x05\x00\x00\x00"}, (*Engine).Audit},
		{lsm.Op{Key: "e.0000000001", Gone: true}, (*Engine).Audit},
		{lsm.Op{Key: "b.ann.USD", Value: "\x04"}, (*Engine).Audit},
		{lsm.Op{Key: "b.ann.USD", Gone: true}, (*Engine).Audit},
		{lsm.Op{Key: "b.cid.USD", Value: "\x04"}, (*Engine).Audit},
		{lsm.Op{Key: "f.X.2932896", Value: "\x04"}, (*Engine).Audit},
		{lsm.Op{Key: "f.Z.2932896", Value: "\x04"}, (*Engine).Audit},
		{lsm.Op{Key: "c.c", Gone: true}, (*Engine).Audit},
		{lsm.Op{Key: "c.c", Value: "\x01c\x03ann\x03bob\x08one(USD)\x00\x00\x02\x00\x00"}, (*Engine).Audit},
		{lsm.Op{Key: "c.d", Value: "\x01d\x03ann\x03bob\x08one(USD)\x00\x00\x02\x00\x00"}, (*Engine).Audit},
		{lsm.Op{Key: "a.d", Value: "\x01d\x03ann\x03bob\x04zero\x00\x00\x02\x00\x00"}, (*Engine).Audit},
		{lsm.Op{Key: "m", Value: "\x01\x04"}, (*Engine).Audit},
		{lsm.Op{Key: "m", Value: "\x00\x05"}, (*Engine).Audit},
		{lsm.Op{Key: "m", Gone: true}, (*Engine).Audit},
	} {
		g := begin()
		want(t, "Audit", g.Audit(), api.OK)
		want(t, "Write", g.Store().Write([]lsm.Op{c.op}), api.OK)
		if err := c.ask(g); err != api.ErrCorrupt {
			t.Error(i, c.op, err)
		}
	}
	for i, ops := range [][]lsm.Op{
		{{Key: "e.0000000004", Value: "\x07\x02zz\x00\x00\x00\x00\x00\x00\x00"}, {Key: "m", Value: "\x00\x05"}}, // nothing of that id is filed
		{{Key: "e.0000000000", Value: "\x03\x00\x01X\x00\x00\x03\x00\x00\x0a"}},                                 // on a day that isn't there yet
		{{Key: "e.0000000002", Value: "\x01\x01d\x03ann\x03bob\x08one(USD)\x03\x00\x00\x00"}},
		{{Key: "a.e", Value: "\x01e\x03ann\x03bob\x08one(USD)\x00\x00\x02\x00\x00"}},
	} {
		g := begin()
		want(t, "Write", g.Store().Write(ops), api.OK)
		if err := g.Audit(); err != api.ErrCorrupt {
			t.Error(i, err)
		}
	}
	g := begin()
	g.Store().Write([]lsm.Op{{Key: "c.1", Value: "junk"}, {Key: "a.d.", Value: "junk"}})
	_, e1 := g.Ids()
	_, e2 := g.Archive()
	if e1 != api.ErrCorrupt || e2 != api.ErrCorrupt {
		t.Error(e1, e2)
	}
	for _, m := range []string{"", "\x00", "\x00\x00\x00", "\x80\x00\x00", "\xe1\x81\xb3\x01\x00"} {
		d := disk.New(10000)
		s, _ := lsm.Open(d, small)
		s.Write([]lsm.Op{{Key: "m", Value: m}})
		if g, err := Open(d, small); g != nil || err != api.ErrCorrupt {
			t.Errorf("%q %d", m, err)
		}
	}
}

// P26.1, P26.2
func TestNil(t *testing.T) {
	var g *Engine
	_, e1 := g.Do(tick(1))
	_, e2 := g.Contract("c")
	_, e3 := g.Filed("c")
	_, e4 := g.Ids()
	_, e5 := g.Archive()
	_, e6 := g.Balance("a", "b")
	_, e7 := g.Books()
	_, e8 := g.Events(0, 1)
	for i, err := range []api.Errno{e1, e2, e3, e4, e5, e6, e7, e8, g.Audit()} {
		if err != api.ErrArg {
			t.Error(i, err)
		}
	}
	if g.Day() != 0 || g.Count() != 0 || g.Store() != nil {
		t.Error("nil")
	}
	if g, err := Open(nil, small); g != nil || err != api.ErrArg {
		t.Error(err)
	}
}

// P26.1: what is too long is refused whole
func TestLong(t *testing.T) {
	g := fresh(t)
	wide := func(level int, leaf func() string) string {
		var f func(int) string
		f = func(k int) string {
			if k == 0 {
				return leaf()
			}
			return "and(" + f(k-1) + ", " + f(k-1) + ")"
		}
		return f(level)
	}
	n := 0
	text := wide(6, func() string { n++; return fmt.Sprint("one(a23456789012", n, ")") })
	for i := range 39 {
		text := "when(X = 1, " + text + ")"
		do(t, g, open(fmt.Sprint("x", i), text), api.OK)
	}
	before := books(t, g)
	do(t, g, fix("X", 1), api.ErrLong)
	if g.Count() != 39 || books(t, g) != before {
		t.Error("changed")
	}
	do(t, g, fix("X", 2), api.OK)
	want(t, "Audit", g.Audit(), api.OK)
}

// P26.1: a batch has as many changes as may be, and not one more
func TestMany(t *testing.T) {
	for more, err := range []api.Errno{api.OK, api.ErrLong} {
		g := fresh(t)
		n := 0
		for i := range 4 { // two accounts of each currency, and four contracts, f., m, e. and q.
			from := n
			n += 49 + more*(i/3)
			do(t, g, open(fmt.Sprint("x", i), "when(X = 1, "+balanced(from, n)+")"), api.OK)
		}
		l, got := g.Do(fix("X", 1))
		if got != err || err == api.OK && len(l) != 196 {
			t.Error(n, len(l), got)
		}
		want(t, "Audit", g.Audit(), api.OK)
	}
}

// balanced is one of each currency from a number up to another one.
func balanced(from, to int) string {
	if to-from == 1 {
		return fmt.Sprint("one(C", from, ")")
	}
	mid := (from + to) / 2
	return "and(" + balanced(from, mid) + ", " + balanced(mid, to) + ")"
}

// P1: on a disk with room for all bytes that are written, and twelve more, no answer is that it is full
func TestJustRoom(t *testing.T) {
	for seed := range int64(25) {
		room, replies := 1<<24, ""
		for round := range 2 {
			r := rand.New(rand.NewSource(seed))
			reqs = 0
			d := disk.New(room)
			g, err := Open(d, small)
			s := fmt.Sprint(err)
			for range 60 {
				l, err := g.Do(random(r, g))
				s += fmt.Sprint(l, err)
				if r.Intn(3) == 0 {
					s += fmt.Sprint(maintain(g, r))
				}
				if r.Intn(15) == 0 {
					g, err = Open(d, small)
					s += fmt.Sprint(err)
				}
			}
			if round == 1 && s != replies {
				t.Fatal(seed, room, s, replies)
			}
			room, replies = d.Written()+12, s
		}
	}
}

// everything is all that an engine tells.
func everything(t *testing.T, g *Engine) string {
	t.Helper()
	ids, e1 := g.Ids()
	filed, e2 := g.Archive()
	books, e3 := g.Books()
	events, e4 := g.Events(0, 1<<40)
	s := fmt.Sprint(g.Day(), g.Count(), ids, filed, books, events, e1, e2, e3, e4)
	for _, id := range ids {
		c, err := g.Contract(id)
		s += fmt.Sprintf("%v %d", c, err)
	}
	for _, id := range filed {
		c, err := g.Filed(id)
		s += fmt.Sprintf("%v %d", c, err)
	}
	return s
}

func random(r *rand.Rand, g *Engine) Ask {
	ids := []string{"a", "b", "c", "d", "e", "f", "g", "h"}
	id, party := ids[r.Intn(8)], []string{"ann", "bob", "cid"}[r.Intn(3)]
	name := string(rune('X' + r.Intn(3)))
	switch r.Intn(12) {
	case 0, 1, 2:
		texts := []string{"one(USD)", "or(one(USD), give(or(one(EUR), zero)))", "when(X > 2, scale(Y, one(USD)))", "until(Z = 3, anytime(day > 3, scale(X, one(EUR))))", "and(scale(X * Y, give(one(USD))), give(when(Z = 1, or(one(EUR), one(USD)))))", "scale(10 / X, one(JPY))", "$", "until(X > 1, and(or(zero, one(USD)), until(Y > 1, when(Z > 1, one(USD)))))"}
		a := open(id, texts[r.Intn(len(texts))])
		a.A = party
		if a.A == "bob" {
			a.B = "cid"
		}
		return a
	case 3, 4:
		return tick(g.Day() + r.Intn(3))
	case 5, 6:
		return fix(name, int64(r.Intn(5)))
	case 7, 8:
		return choose(id, party, r.Intn(2), r.Intn(2))
	case 9:
		return novate(id, party, []string{"dan", "ann"}[r.Intn(2)])
	case 10:
		return cancel(id, party)
	}
	return file(id)
}

func maintain(g *Engine, r *rand.Rand) api.Errno {
	s := g.Store()
	switch r.Intn(5) {
	case 0, 1:
		return s.Flush()
	case 2:
		_, err := s.Compact()
		return err
	case 3:
		return s.Rotate()
	}
	_, err := s.Collect()
	return err
}

// P26.3: maintenance changes no answer
func TestMaintained(t *testing.T) {
	r := rand.New(rand.NewSource(1))
	for range 12 {
		d := disk.New(1 << 24)
		g, plain := opened(t, d), fresh(t)
		ok := 0
		for range 150 {
			a := random(r, g)
			l, err := g.Do(a)
			m, e := plain.Do(a)
			if err != e || !slices.Equal(l, m) {
				t.Fatal(a, l, err, m, e)
			}
			if err == api.OK {
				ok++
			}
			if r.Intn(2) == 0 {
				want(t, "maintain", maintain(g, r), api.OK)
			}
			if r.Intn(20) == 0 {
				g = opened(t, d)
				if s := everything(t, g); s != everything(t, plain) {
					t.Fatal(s)
				}
			}
			books(t, g)
		}
		want(t, "Audit", g.Audit(), api.OK)
		if ok < 30 {
			t.Error("too few", ok)
		}
	}
}

func keeps(r *rand.Rand) []disk.Keep {
	l := make([]disk.Keep, 40)
	for i := range l {
		l[i] = disk.Keep{Bytes: r.Intn(600) - 50, Sector: r.Intn(12) - 2}
	}
	return l
}

// P26.3: behind a crash
func TestCrashes(t *testing.T) {
	r := rand.New(rand.NewSource(2))
	for range 60 {
		d := disk.New(1 << 24)
		var asks []Ask // that were OK
		d.Arm(r.Intn(60))
		var maybe *Ask
		for range 5 {
			g, err := Open(d, small)
			for err != api.OK {
				want(t, "Open", err, api.ErrOff)
				d.Crash(keeps(r))
				g, err = Open(d, small)
			}
			plain := fresh(t)
			for _, a := range asks {
				plain.Do(a)
			}
			if d.On() {
				s := everything(t, g)
				if maybe != nil && s != everything(t, plain) {
					if _, err := plain.Do(*maybe); err == api.OK {
						asks = append(asks, *maybe)
					}
				}
				if s != everything(t, plain) {
					t.Fatal("another state")
				}
				want(t, "Audit", g.Audit(), api.OK)
			}
			maybe = nil
			d.Arm(r.Intn(90))
			for d.On() {
				a := random(r, g)
				if _, err := g.Do(a); err == api.OK {
					asks = append(asks, a)
				} else if err == api.ErrOff {
					maybe = &a
				}
				if r.Intn(3) == 0 {
					maintain(g, r)
				}
			}
			d.Crash(keeps(r))
		}
	}
}

// P26.2: a byte that is turned is told, and nothing is changed any more
func TestBursts(t *testing.T) {
	r := rand.New(rand.NewSource(3))
	corrupt := 0
	for range 40 {
		d := disk.New(1 << 24)
		g, plain := opened(t, d), fresh(t)
		both := func() {
			a := random(r, g)
			l, err := g.Do(a)
			if err == api.ErrCorrupt {
				return
			}
			m, e := plain.Do(a)
			if err != e || !slices.Equal(l, m) {
				t.Fatal(a, l, err, m, e)
			}
		}
		for range 60 {
			both()
			if r.Intn(3) == 0 {
				maintain(g, r)
			}
		}
		name := d.Names()[r.Intn(len(d.Names()))]
		d.Rot(name, r.Intn(8*d.Safe(name)), r.Uint32()|1)
		g, err := Open(d, small)
		if err == api.ErrCorrupt {
			corrupt++
			continue
		}
		for range 40 {
			both()
			if g.Store().Err() == api.ErrCorrupt {
				corrupt++
				if _, err := g.Do(tick(api.MaxDay)); err != api.ErrCorrupt {
					t.Fatal(err)
				}
				break
			}
		}
	}
	if corrupt == 0 {
		t.Error("never corrupt")
	}
}

// P1: where the disk is full, asks are refused, and what was OK is there
func TestFull(t *testing.T) {
	r := rand.New(rand.NewSource(4))
	full := 0
	for range 20 {
		d := disk.New(500 + r.Intn(9000))
		g, err := Open(d, small)
		if err == api.ErrFull {
			continue
		}
		plain := fresh(t)
		for range 150 {
			a := random(r, g)
			l, err := g.Do(a)
			if err == api.ErrFull {
				full++
				continue
			}
			m, e := plain.Do(a)
			if err != e || !slices.Equal(l, m) {
				t.Fatal(a, l, err, m, e)
			}
			if r.Intn(9) == 0 {
				maintain(g, r)
			}
		}
		if s := everything(t, g); s != everything(t, plain) {
			t.Fatal(s)
		}
		if g, err := Open(d, small); err == api.OK && !reflect.DeepEqual(everything(t, g), everything(t, plain)) {
			t.Fatal("opened again")
		}
	}
	if full == 0 {
		t.Error("never full")
	}
}

func BenchmarkTick(b *testing.B) {
	g, _ := Open(disk.New(1<<24), small)
	for i := range 40 {
		g.Do(open(fmt.Sprint("x", i), "until(X > 1, and(or(zero, one(USD)), until(Y > 1, when(Z > 1, one(USD)))))"))
	}
	for b.Loop() {
		g.Do(tick(g.Day() + 1))
	}
}
