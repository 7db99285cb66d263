package desk

import (
	"fmt"
	"math/rand"
	"reflect"
	"slices"
	"testing"

	"debenture/api"
	"debenture/disk"
	"debenture/engine"
	"debenture/event"
	"debenture/ledger"
	"debenture/level"
)

var small = level.Config{Zero: 2, Base: 3000, Times: 3, Table: 1000}

func fresh(t *testing.T) *engine.Engine {
	t.Helper()
	g, err := engine.Open(disk.New(1<<23), small)
	if err != api.OK {
		t.Fatal(err)
	}
	return g
}

// P28.1
func TestLine(t *testing.T) {
	for room, ok := range map[int]bool{-1: false, 0: false, 1: true, 64: true, 65: false} {
		if (NewLine[int](room) != nil) != ok {
			t.Error(room)
		}
	}
	l := NewLine[string](2)
	if s, ok := l.Take(); s != "" || ok || l.Len() != 0 {
		t.Error("an empty line")
	}
	if l.Offer("a") != api.OK || l.Offer("b") != api.OK || l.Offer("c") != api.ErrBusy || l.Len() != 2 {
		t.Error("Offer")
	}
	if s, ok := l.Take(); s != "a" || !ok {
		t.Error(s)
	}
	if l.Offer("d") != api.OK {
		t.Error("there is room again")
	}
	l.Close()
	l.Close()
	if l.Offer("e") != api.ErrOff || l.Len() != 2 {
		t.Error("closed")
	}
	for _, want := range []string{"b", "d"} {
		if s, ok := l.Take(); s != want || !ok {
			t.Error(s)
		}
	}
	if s, ok := l.Take(); s != "" || ok || l.Len() != 0 || l.Offer("f") != api.ErrOff {
		t.Error("closed, and empty")
	}
	var none *Line[int]
	none.Close()
	if n, ok := none.Take(); n != 0 || ok || none.Offer(1) != api.ErrArg || none.Len() != 0 {
		t.Error("nil")
	}
}

func open(id string) engine.Ask {
	return engine.Ask{Kind: event.Opened, Req: "r" + id, Id: id, A: "ann", B: "bob", Text: "one(USD)"}
}

// P28.2
func TestDesk(t *testing.T) {
	g := fresh(t)
	if New(nil, 1, 1) != nil || New(g, 0, 1) != nil || New(g, 1, 65) != nil {
		t.Error("New")
	}
	d := New(g, 2, 3)
	if d.Step() || d.Run() != 0 || d.Told() != nil {
		t.Error("nothing waits")
	}
	for _, k := range []int{0, -1, 7} {
		if d.Do(Chore{Kind: k}) != api.ErrArg {
			t.Error(k)
		}
	}
	if d.Do(Chore{Kind: Flush}) != api.OK || d.Do(Chore{Push, 0}) != api.OK || d.Do(Chore{Kind: Audit}) != api.OK || d.Do(Chore{Kind: Flush}) != api.ErrBusy {
		t.Error("Do")
	}
	if d.Ask(open("a")) != api.OK || d.Ask(engine.Ask{Req: "x"}) != api.OK || d.Ask(open("b")) != api.ErrBusy {
		t.Error("Ask")
	}
	if a, c := d.Waiting(); a != 2 || c != 3 {
		t.Error(a, c)
	}
	if !d.Step() || d.Ask(open("c")) != api.OK {
		t.Error("Step")
	}
	if n := d.Run(); n != 5 {
		t.Error(n)
	}
	move := []ledger.Move{{From: "bob", To: "ann", Coin: "USD", Amount: 1}}
	want := []Told{{Req: "ra", Moves: move}, {Req: "x", Err: api.ErrArg}, {Req: "rc", Moves: move}, {Chore: Flush}, {Chore: Push}, {Chore: Audit}}
	if got := d.Told(); !reflect.DeepEqual(got, want) {
		t.Error(got)
	}
	d.Told()[0].Moves[0].Amount = 99
	if d.Told()[0].Moves[0].Amount != 1 {
		t.Error("what is told is new memory")
	}
	if i := g.Store().Info(); i.Memory != 0 || !slices.Equal(i.Levels, []int{0, 1, 0, 0, 0}) {
		t.Error(i)
	}
	d.Ask(open("d"))
	d.Do(Chore{Kind: Rotate})
	d.Do(Chore{Kind: Collect})
	d.Do(Chore{Kind: Compact})
	d.Close()
	if d.Ask(open("e")) != api.ErrOff || d.Do(Chore{Kind: Flush}) != api.ErrOff || d.Do(Chore{}) != api.ErrArg || d.Run() != 4 {
		t.Error("closed")
	}
	if l := d.Told(); len(l) != 10 || !reflect.DeepEqual(l[7:], []Told{{Chore: Rotate}, {Chore: Collect}, {Chore: Compact}}) {
		t.Error(l)
	}
	var none *Desk
	none.Close()
	a, c := none.Waiting()
	if none.Ask(open("a")) != api.ErrArg || none.Do(Chore{Kind: Flush}) != api.ErrArg || none.Step() || none.Run() != 0 || a != 0 || c != 0 || none.Told() != nil {
		t.Error("nil")
	}
}

// P28.3
func TestChores(t *testing.T) {
	r := rand.New(rand.NewSource(1))
	d, plain := New(fresh(t), 64, 64), fresh(t)
	var want []Told
	for i := range 60 {
		a := open(fmt.Sprint("c", r.Intn(20)))
		a.Req = fmt.Sprint("r", i)
		if r.Intn(3) == 0 {
			a = engine.Ask{Kind: event.Ticked, Req: a.Req, Day: i / 2}
		}
		moves, err := plain.Do(a)
		want = append(want, Told{Req: a.Req, Moves: moves, Err: err})
		d.Ask(a)
		for range r.Intn(3) {
			d.Do(Chore{1 + r.Intn(6), r.Intn(4)})
		}
		if r.Intn(3) == 0 {
			d.Run()
		}
	}
	d.Run()
	var got []Told
	for _, x := range d.Told() {
		if x.Chore == 0 {
			got = append(got, x)
		} else if x.Err != api.OK || x.Req != "" || x.Moves != nil {
			t.Error(x)
		}
	}
	if !reflect.DeepEqual(got, want) {
		t.Error(got, want)
	}
}
