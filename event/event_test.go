package event

import (
	"math"
	"reflect"
	"slices"
	"strconv"
	"strings"
	"testing"

	"debenture/api"
	"debenture/codec"
	"debenture/life"
	"debenture/obs"
	"debenture/parse"
)

func rightOnes() []Event {
	return []Event{
		{Kind: Opened, Id: "c", A: "ann", B: "bob", Text: "when(day >= 2024-01-31, one(USD))", Day: api.MaxDay}, {Kind: Ticked, Day: 5}, {Kind: Ticked}, {Kind: Fixed, A: "SPX", Day: 7, N: math.MinInt64}, {Kind: Fixed, A: "SPX"},
		{Kind: Chose, Id: "c", A: "ann", At: 199, Which: 1}, {Kind: Chose, Id: "c", A: "ann"}, {Kind: Novated, Id: "c", A: "ann", B: "cid"}, {Kind: Cancelled, Id: "c", A: "ann"}, {Kind: Filed, Id: "a234567890123456"},
		{Kind: Opened, Id: "c", A: "ann", B: "bob", Text: "when(1, zero)"},
	}
}

// P25.1
func TestBytes(t *testing.T) {
	if s, err := Encode(Event{Kind: Ticked, Day: 5}); s != "\x02\x00\x00\x00\x00\x05\x00\x00\x00" || err != api.OK {
		t.Errorf("%x %d", s, err)
	}
	for _, e := range rightOnes() {
		s, err := Encode(e)
		w := new(codec.Writer).Size(e.Kind).Text(e.Id).Text(e.A).Text(e.B).Text(e.Text).Size(e.Day).Size(e.At).Size(e.Which).Signed(e.N).Bytes()
		if !Right(e) || err != api.OK || s != w {
			t.Error(e, err)
		}
		if d, err := Decode(s); d != e || err != api.OK {
			t.Error(d, err)
		}
		for i := range len(s) {
			if d, err := Decode(s[:i]); d != (Event{}) || err != api.ErrForm {
				t.Error(e, i)
			}
		}
		if _, err := Decode(s + "x"); err != api.ErrForm {
			t.Error("more")
		}
	}
}

// P25.1
func TestWrong(t *testing.T) {
	var wrong []Event
	for _, e := range rightOnes() {
		for _, f := range []func(*Event){
			func(e *Event) { e.Kind = 0 }, func(e *Event) { e.Kind = 8 }, func(e *Event) { e.Kind = -1 },
			func(e *Event) { e.Day = -1 }, func(e *Event) { e.Day = api.MaxDay + 1 }, func(e *Event) { e.At = -1 }, func(e *Event) { e.At = 200 }, func(e *Event) { e.Which = 2 }, func(e *Event) { e.Which = -1 },
			func(e *Event) { e.Id = "a b" }, func(e *Event) { e.A = "1" }, func(e *Event) { e.B = "a2345678901234567" }, func(e *Event) { e.Text = "zero " },
			func(e *Event) {
				if e.Id != "" {
					e.Id = ""
				} else {
					e.Id = "x"
				}
			},
			func(e *Event) {
				if e.A != "" {
					e.A = ""
				} else {
					e.A = "x"
				}
			},
			func(e *Event) {
				if e.B != "" {
					e.B = e.A
				} else {
					e.B = "x"
				}
			},
			func(e *Event) {
				if e.Text != "" {
					e.Text = "zero,"
				} else {
					e.Text = "zero"
				}
			},
		} {
			x := e
			f(&x)
			wrong = append(wrong, x)
		}
		x := e
		x.At, x.Which = x.At+300, 1
		wrong = append(wrong, x)
		if e.Kind != Fixed {
			e.N = 1
			wrong = append(wrong, e)
		}
		if e.Kind > Fixed {
			e.N, e.Day = 0, 1
			wrong = append(wrong, e)
		}
	}
	for _, text := range []string{"", "one( USD)", "give(give(zero)", "when(1,zero)", "(zero)", "scale((1), zero)"} {
		wrong = append(wrong, Event{Kind: Opened, Id: "c", A: "ann", B: "bob", Text: text})
	}
	for _, e := range wrong {
		if s, err := Encode(e); Right(e) || s != "" || err != api.ErrArg {
			t.Error(e, err)
		}
		s := new(codec.Writer).Size(e.Kind).Text(e.Id).Text(e.A).Text(e.B).Text(e.Text).Size(e.Day).Size(e.At).Size(e.Which).Signed(e.N).Bytes()
		if d, err := Decode(s); e.Kind >= 0 && e.Day >= 0 && e.At >= 0 && e.Which >= 0 && (d != (Event{}) || err != api.ErrForm) {
			t.Error(e, err)
		}
	}
}

func parts(t *testing.T, s string) []life.Part {
	t.Helper()
	c, _, _ := parse.Parse(s)
	l, _, err := life.Start(c, obs.Env{})
	if err != api.OK {
		t.Fatal(s, err)
	}
	return l
}

const text = "and(until(A = 1, and(give(or(zero, one(USD))), until(B = 1, scale(X, zero)))), until(A = 1, or(zero, zero)))"

func sound(t *testing.T) Contract {
	return Contract{"c", "ann", "bob", text, 5, 0, Open, parts(t, text)}
}

// P25.2, P25.3
func TestPack(t *testing.T) {
	c := sound(t)
	s, err := Pack(c)
	w := new(codec.Writer).Text("c").Text("ann").Text("bob").Text(text).Size(5).Size(0).Size(1).
		Size(2).Text("A = 1").Text("B = 1").Size(3).
		Signed(-1).Size(1).Size(1).Size(0).Text("or(zero, one(USD))").
		Signed(1).Size(0).Size(2).Size(0).Size(1).Text("scale(X, zero)").
		Signed(1).Size(0).Size(1).Size(0).Text("or(zero, zero)")
	if err != api.OK || s != w.Bytes() {
		t.Errorf("%q %d", s, err)
	}
	for _, c := range []Contract{c, {"c", "ann", "bob", "zero", 0, api.MaxDay, Done, nil}, {"c", "ann", "bob", "zero", api.MaxDay, 0, Void, nil}, {"c", "ann", "bob", "zero", 0, 0, Open, nil}} {
		s, err := Pack(c)
		d, uerr := Unpack(s)
		if err != api.OK || uerr != api.OK || !reflect.DeepEqual(c, d) || !Same(c, d) || !Sound(c) {
			t.Error(d, err, uerr)
		}
		for i := range len(s) {
			if d, err := Unpack(s[:i]); err != api.ErrForm || !reflect.DeepEqual(d, Contract{}) {
				t.Error("cut at", i)
			}
		}
		if _, err := Unpack(s + "\x00"); err != api.ErrForm {
			t.Error("more")
		}
	}
}

// P25.2
func TestSound(t *testing.T) {
	for i, f := range []func(*Contract){
		func(c *Contract) { c.Id = "" }, func(c *Contract) { c.Holder = "1" }, func(c *Contract) { c.Writer = "" }, func(c *Contract) { c.Writer = "ann" }, func(c *Contract) { c.Text = "zero " }, func(c *Contract) { c.Text = "when(1, zero)" }, func(c *Contract) { c.Text = "" },
		func(c *Contract) { c.Born = -1 }, func(c *Contract) { c.Born = api.MaxDay + 1 }, func(c *Contract) { c.Ended = 5 }, func(c *Contract) { c.State = Done }, func(c *Contract) { c.State = Void }, func(c *Contract) { c.State = 0; c.Parts = nil }, func(c *Contract) { c.State = 4; c.Parts = nil },
		func(c *Contract) { c.Parts = append(slices.Clone(c.Parts), life.Part{}) }, func(c *Contract) { c.State, c.Parts, c.Ended = Done, nil, -1 }, func(c *Contract) { c.State, c.Parts, c.Ended = Void, nil, api.MaxDay+1 },
	} {
		c := sound(t)
		f(&c)
		if s, err := Pack(c); Sound(c) || s != "" || err != api.ErrArg {
			t.Error(i, err)
		}
		if Same(c, sound(t)) {
			t.Error("the same", i)
		}
	}
	for i, f := range []func(*life.Part){func(p *life.Part) { p.Factor++ }, func(p *life.Part) { p.Turned = !p.Turned }, func(p *life.Part) { p.Until = nil }, func(p *life.Part) { p.Term = parts(t, "or(zero, give(zero))")[0].Term }} {
		c := sound(t)
		f(&c.Parts[0])
		if Same(c, sound(t)) {
			t.Error("the same", i)
		}
	}
	if !Same(sound(t), sound(t)) || !Same(Contract{}, Contract{Parts: []life.Part{}}) {
		t.Error("Same")
	}
}

// P25.2
func TestForms(t *testing.T) {
	head := func() *codec.Writer {
		return new(codec.Writer).Text("c").Text("ann").Text("bob").Text("or(zero, zero)").Size(5).Size(0).Size(1)
	}
	part := func(w *codec.Writer, turned int, until ...int) *codec.Writer {
		w.Signed(1).Size(turned).Size(len(until))
		for _, u := range until {
			w.Size(u)
		}
		return w.Text("or(zero, zero)")
	}
	if _, err := Unpack(part(head().Size(1).Text("A = 1").Size(1), 0, 0, 0).Bytes()); err != api.OK {
		t.Error(err)
	}
	for i, w := range []*codec.Writer{
		part(head().Size(0).Size(1), 2), part(head().Size(0).Size(1), 0, 0), part(head().Size(1).Text("A = 1").Size(1), 0), part(head().Size(2).Text("A = 1").Text("A = 1").Size(1), 0, 0, 1), part(head().Size(2).Text("A = 1").Text("B = 1").Size(1), 0, 1, 0),
		part(head().Size(1).Text("A=1").Size(1), 0, 0), part(head().Size(1).Text("A").Size(1), 0, 0), part(head().Size(1).Text("A <").Size(1), 0, 0), part(head().Size(1).Text("A = 1").Size(1), 0, make([]int, 17)...), part(head().Size(0).Size(2), 0), head().Size(0).Size(math.MaxInt), part(head().Size(0).Size(0), 0),
		new(codec.Writer).Text("a2345678901234567").Text("ann").Text("bob").Text("zero").Size(5).Size(0).Size(1).Size(0).Size(0),
	} {
		if c, err := Unpack(w.Bytes()); err != api.ErrForm || !reflect.DeepEqual(c, Contract{}) {
			t.Error(i, err)
		}
	}
}

// P25.2
func TestLong(t *testing.T) {
	c := sound(t)
	x := parts(t, "or(zero, zero)")[0]
	const n = 40
	of := func(less int) Contract { // each truth has a text of its own; some of their names are shorter
		c := c
		c.Parts = nil
		for k := range n {
			p := x
			for i := range 16 {
				cut := min(less, 14)
				less -= cut
				e, _, err := parse.ParseExpr(strings.Repeat("a", 16-cut) + " = " + strconv.Itoa(1e9+k*16+i))
				if err != api.OK {
					t.Fatal(err)
				}
				p.Until = append(p.Until, e)
			}
			c.Parts = append(c.Parts, p)
		}
		return c
	}
	s, err := Pack(of(16 * n * 14))
	if err != api.OK {
		t.Fatal("the shortest", err)
	}
	more := 16*n*14 + len(s) - 15000
	if s, err = Pack(of(more)); len(s) != 15000 || err != api.OK {
		t.Fatal(len(s), err)
	}
	if d, err := Unpack(s); err != api.OK || !Same(d, of(more)) {
		t.Error(err)
	}
	if s, err = Pack(of(more - 1)); s != "" || err != api.ErrLong || !Sound(of(more-1)) {
		t.Error(len(s), err)
	}
}
