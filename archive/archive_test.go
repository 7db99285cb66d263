package archive

import (
	"fmt"
	"math/rand"
	"reflect"
	"slices"
	"testing"

	"debenture/api"
	"debenture/codec"
	"debenture/crc"
	"debenture/disk"
	"debenture/engine"
	"debenture/event"
	"debenture/level"
	"debenture/lsm"
)

var small = level.Config{Zero: 2, Base: 3000, Times: 3, Table: 1000}

func want(t *testing.T, what string, got, want api.Errno) {
	t.Helper()
	if got != want {
		t.Fatalf("%s: %d, want %d", what, got, want)
	}
}

// item is an item with so many events between its first and its last one.
func item(id string, between int) Item {
	x := Item{Contract: event.Contract{Id: id, Holder: "ann", Writer: "bob", Text: "one(USD)", Born: 3, Ended: 5, State: event.Done}}
	x.History = append(x.History, event.Event{Kind: event.Opened, Id: id, A: "ann", B: "bob", Text: "one(USD)", Day: 3})
	for i := range between {
		e := event.Event{Kind: event.Chose, Id: id, A: "ann", At: i % 200}
		switch i % 3 {
		case 1:
			e = event.Event{Kind: event.Novated, Id: id, A: "ann", B: "cid"}
		case 2:
			e = event.Event{Kind: event.Cancelled, Id: id, A: "ann"}
		}
		x.History = append(x.History, e)
	}
	x.History = append(x.History, event.Event{Kind: event.Filed, Id: id})
	return x
}

func shelf(t *testing.T, d *disk.Disk) *Shelf {
	t.Helper()
	h, err := Open(d, small)
	want(t, "Open", err, api.OK)
	return h
}

func write(t *testing.T, l ...Item) string {
	t.Helper()
	s, err := Write(l)
	want(t, "Write", err, api.OK)
	return s
}

// P27.1
func TestSound(t *testing.T) {
	for _, n := range []int{0, 1, 5, 998} {
		if !Sound(item("c", n)) {
			t.Error(n)
		}
	}
	void := item("c", 0)
	void.Contract.State = event.Void
	if !Sound(void) {
		t.Error("Void")
	}
	for i, f := range []func(*Item){
		func(x *Item) { x.History = nil }, func(x *Item) { x.History = x.History[:1] }, func(x *Item) { x.History = x.History[1:] }, func(x *Item) { x.History = x.History[:len(x.History)-1] }, func(x *Item) { *x = item("c", 999) }, func(x *Item) { x.Contract.Id = "d" }, func(x *Item) { x.Contract.State, x.Contract.Ended = event.Open, 0 }, func(x *Item) { x.Contract.Text = "" },
		func(x *Item) { x.History[1] = x.History[0] }, func(x *Item) { x.History[1] = x.History[len(x.History)-1] }, func(x *Item) { x.History[1] = event.Event{Kind: event.Ticked, Day: 5} }, func(x *Item) { x.History[1] = event.Event{Kind: event.Fixed, A: "c"} }, func(x *Item) { x.History[1].At = 200 }, func(x *Item) { x.History[1].Id = "d" }, func(x *Item) { x.History[0].Text = "one( USD)" }, func(x *Item) { slices.Reverse(x.History) },
	} {
		x := item("c", 3)
		f(&x)
		if Sound(x) {
			t.Error(i)
		}
		if s, err := Write([]Item{x}); s != "" || err != api.ErrArg {
			t.Error(i, err)
		}
	}
}

func bytesOf(x Item) string {
	packed, _ := event.Pack(x.Contract)
	var l []string
	for _, e := range x.History {
		s, _ := event.Encode(e)
		l = append(l, s)
	}
	w := new(codec.Writer).Text(packed)
	codec.PutTexts(w, l)
	return w.Bytes()
}

func framed(s string) string {
	f, _ := crc.Frame(s)
	return f
}

// P27.1, P27.4
func TestBytes(t *testing.T) {
	a, b := item("a", 2), item("b", 998)
	s := write(t, a, b)
	if s != framed(bytesOf(a))+framed(bytesOf(b)) {
		t.Error("bytes")
	}
	l, err := Read(s)
	if err != api.OK || !reflect.DeepEqual(l, []Item{a, b}) || write(t, l...) != s {
		t.Error(err)
	}
	if l, err := Read(write(t)); l != nil || err != api.OK {
		t.Error(err)
	}
	for _, l := range [][]Item{{b, a}, {a, a}, {a, b, {}}} {
		if s, err := Write(l); s != "" || err != api.ErrArg {
			t.Error(err)
		}
	}
	fa, fb := framed(bytesOf(a)), framed(bytesOf(b))
	for i, c := range []struct {
		s   string
		err api.Errno
	}{
		{fa + "x", api.ErrCorrupt}, {fa[:len(fa)-1], api.ErrCorrupt}, {"x", api.ErrCorrupt}, {framed("junk") + "x", api.ErrCorrupt}, {fb + fa, api.ErrForm}, {fa + fa, api.ErrForm}, {framed("junk"), api.ErrForm}, {framed(""), api.ErrForm}, {framed(bytesOf(a) + "x"), api.ErrForm}, {framed(bytesOf(item("a", 999))), api.ErrForm}, {framed(bytesOf(Item{Contract: a.Contract})), api.ErrForm}, {fa[:len(fa)-2] + "xy" + framed("junk"), api.ErrCorrupt},
		{framed("\x04junk" + bytesOf(a)[1:]), api.ErrForm},
	} {
		if l, err := Read(c.s); l != nil || err != c.err {
			t.Error(i, err)
		}
	}
	r := rand.New(rand.NewSource(1))
	s = write(t, a, item("b", 9))
	for range 5000 {
		x := []byte(s)
		at, bits := r.Intn(8*len(x)), r.Uint32()|1
		for i := range 32 {
			if k := at + i; bits>>i&1 == 1 && k < 8*len(x) {
				x[k/8] ^= 1 << (k % 8)
			}
		}
		if l, err := Read(string(x)); l != nil || err != api.ErrCorrupt {
			t.Fatal(at, bits, err)
		}
	}
}

// P27.3
func TestShelf(t *testing.T) {
	d := disk.New(1 << 22)
	h := shelf(t, d)
	if s, err := h.Export(); s != "" || err != api.OK {
		t.Error(err)
	}
	a, b, c := item("a", 0), item("b", 397), item("c", 3)
	want(t, "Import", h.Import(write(t, b, c)), api.OK)
	want(t, "one is there", h.Import(write(t, a, b)), api.ErrTwice)
	want(t, "one is too long, one is there", h.Import(write(t, item("a", 398), b)), api.ErrTwice)
	want(t, "one is too long", h.Import(write(t, a, item("d", 398))), api.ErrLong)
	want(t, "corrupt", h.Import("x"), api.ErrCorrupt)
	want(t, "no form", h.Import(framed("x")), api.ErrForm)
	want(t, "it stays open", h.Store().Err(), api.OK)
	ids, err := h.Ids()
	if !slices.Equal(ids, []string{"b", "c"}) || err != api.OK {
		t.Error(ids, err)
	}
	if x, err := h.Get("b"); !reflect.DeepEqual(x, b) || err != api.OK {
		t.Error(err)
	}
	for _, id := range []string{"a", "", "b.0", "\x00"} {
		if x, err := h.Get(id); !reflect.DeepEqual(x, Item{}) || err != api.ErrNone {
			t.Error(id, err)
		}
	}
	h = shelf(t, d)
	want(t, "Import", h.Import(write(t, a)), api.OK)
	if s, err := h.Export(); s != write(t, a, b, c) || err != api.OK {
		t.Error(err)
	}
	for k, v := range map[string]string{"a.a": string(mustPack(a)), "h.a.00000": mustEncode(a.History[0]), "h.b.00398": mustEncode(b.History[398])} {
		if got, is, _ := h.Store().Get(k); got != v || !is {
			t.Error(k, got)
		}
	}
	var none *Shelf
	_, e1 := none.Ids()
	_, e2 := none.Get("a")
	_, e3 := none.Export()
	_, e4 := Export(nil)
	if e1 != api.ErrArg || e2 != api.ErrArg || e3 != api.ErrArg || e4 != api.ErrArg || none.Import("") != api.ErrArg || none.Store() != nil {
		t.Error("nil")
	}
	if h, err := Open(nil, small); h != nil || err != api.ErrArg {
		t.Error(err)
	}
}

func mustPack(x Item) string {
	s, _ := event.Pack(x.Contract)
	return s
}

func mustEncode(e event.Event) string {
	s, _ := event.Encode(e)
	return s
}

// P27.3
func TestUnsound(t *testing.T) {
	for i, op := range []lsm.Op{{Key: "a.c", Value: "junk"}, {Key: "h.c.00001", Gone: true}, {Key: "h.c.00001", Value: "junk"}, {Key: "h.c.00003", Value: mustEncode(event.Event{Kind: event.Filed, Id: "c"})}, {Key: "h.c.00000", Gone: true}, {Key: "h.c.x", Value: "junk"}, {Key: "a.c", Value: mustPack(item("d", 1))}} {
		h := shelf(t, disk.New(1<<20))
		want(t, "Import", h.Import(write(t, item("c", 1))), api.OK)
		h.Store().Write([]lsm.Op{op})
		if x, err := h.Get("c"); !reflect.DeepEqual(x, Item{}) || err != api.ErrCorrupt {
			t.Error(i, err)
		}
		if s, err := h.Export(); s != "" || err != api.ErrCorrupt {
			t.Error(i, err)
		}
	}
	wrong := shelf(t, disk.New(1<<20))
	wrong.Store().Write([]lsm.Op{{Key: "a.1", Value: "junk"}})
	if ids, err := wrong.Ids(); ids != nil || err != api.ErrCorrupt {
		t.Error(ids, err)
	}
	h := shelf(t, disk.New(900))
	want(t, "full", h.Import(write(t, item("a", 0), item("b", 90))), api.ErrFull)
	if ids, err := h.Ids(); !slices.Equal(ids, []string{"a"}) || err != api.OK {
		t.Error("item by item", ids, err)
	}
	d := disk.New(10000)
	h = shelf(t, d)
	d.Arm(1)
	want(t, "off", h.Import(write(t, item("a", 0))), api.ErrOff)
	want(t, "off", h.Import("x"), api.ErrOff)
	if _, err := h.Get(""); err != api.ErrOff {
		t.Error(err)
	}
}

// P27.2, P27.4
func TestEngine(t *testing.T) {
	g, err := engine.Open(disk.New(1<<22), small)
	want(t, "Open", err, api.OK)
	if s, err := Export(g); s != "" || err != api.OK {
		t.Error(err)
	}
	n := 0
	do := func(a engine.Ask) {
		t.Helper()
		n++
		a.Req = fmt.Sprint("r", n)
		_, err := g.Do(a)
		want(t, fmt.Sprint(a), err, api.OK)
	}
	for i, text := range []string{"one(USD)", "or(one(EUR), zero)", "when(X = 1, zero)", "or(zero, zero)"} {
		do(engine.Ask{Kind: event.Opened, Id: string(rune('d' - i)), A: "ann", B: "bob", Text: text})
	}
	do(engine.Ask{Kind: event.Ticked, Day: 7})
	do(engine.Ask{Kind: event.Novated, Id: "c", A: "ann", B: "cid"})
	do(engine.Ask{Kind: event.Fixed, A: "Y", N: 3})
	do(engine.Ask{Kind: event.Chose, Id: "c", A: "cid", At: 0, Which: 0})
	do(engine.Ask{Kind: event.Cancelled, Id: "b", A: "ann"})
	for _, id := range []string{"d", "c", "b"} {
		do(engine.Ask{Kind: event.Filed, Id: id})
	}
	s, err := Export(g)
	want(t, "Export", err, api.OK)
	l, err := Read(s)
	want(t, "Read", err, api.OK)
	events, _ := g.Events(0, 1<<40)
	var ids []string
	for _, x := range l {
		id := x.Contract.Id
		ids = append(ids, id)
		var own []event.Event
		for _, e := range events {
			if e.Id == id {
				own = append(own, e)
			}
		}
		c, err := g.Filed(id)
		if !slices.Equal(x.History, own) || !event.Same(c, x.Contract) || err != api.OK {
			t.Error(x)
		}
	}
	if !slices.Equal(ids, []string{"b", "c", "d"}) || len(l[1].History) != 4 {
		t.Error(ids)
	}
	h := shelf(t, disk.New(1<<22))
	want(t, "Import", h.Import(s), api.OK)
	if again, err := h.Export(); again != s || err != api.OK {
		t.Error("another archive", err)
	}
}
