package script

import (
	"fmt"
	"math"
	"math/rand"
	"reflect"
	"strings"
	"testing"

	"debenture/api"
	"debenture/disk"
	"debenture/engine"
	"debenture/event"
	"debenture/level"
)

var config = level.Config{Zero: 4, Base: 4096, Times: 4, Table: 1024}

func opened(req, id, text string) Act {
	return Act{Ask: engine.Ask{Kind: event.Opened, Req: req, Id: id, A: "ann", B: "bob", Text: text}}
}

func all() Script {
	ask := func(a engine.Ask) Act { return Act{Ask: a} }
	return Script{100000, config, []Act{
		opened("r", "c", "one(USD)"), opened("r2", "d", ""), opened("r3", "e", "\x00\xff\n"),
		ask(engine.Ask{Kind: event.Ticked, Req: "t", Day: 19723}), ask(engine.Ask{Kind: event.Fixed, Req: "f", A: "SPX", N: math.MinInt64}), ask(engine.Ask{Kind: event.Chose, Req: "h", Id: "c", A: "ann", At: 199, Which: 1}),
		ask(engine.Ask{Kind: event.Novated, Req: "n", Id: "c", A: "ann", B: "cid"}), ask(engine.Ask{Kind: event.Cancelled, Req: "x", Id: "c", A: "ann"}), ask(engine.Ask{Kind: event.Filed, Req: "y", Id: "c"}),
		{Kind: 1}, {Kind: 2}, {Kind: 3, N: -1}, {Kind: 3}, {Kind: 4}, {Kind: 5}, {Kind: 6}, {Kind: 7, N: math.MaxInt}, {Kind: 8}, {Kind: 8, Keep: []disk.Keep{{Bytes: 1, Sector: -1}, {Bytes: math.MinInt, Sector: 0}}}, {Kind: 9, Name: "a \x00", At: -5, Bits: math.MaxUint32}, {Kind: 9, Name: "a"},
	}}
}

const text = `store 100000 4 4096 4 1024
opened r c ann bob 6f6e652855534429
opened r2 d ann bob -
opened r3 e ann bob 00ff0a
ticked t 19723
fixed f SPX -9223372036854775808
chose h c ann 199 1
novated n c ann cid
cancelled x c ann
filed y c
flush
compact
push -1
push 0
rotate
collect
audit
arm 9223372036854775807
crash
crash 1 -1 -9223372036854775808 0
rot 612000 -5 4294967295
rot 61 0 0
`

// P29.2, P29.4
func TestText(t *testing.T) {
	if s, err := Print(all()); s != text || err != api.OK || !Right(all()) {
		t.Error(s, err)
	}
	if s, n, err := Parse(text); !reflect.DeepEqual(s, all()) || n != 0 || err != api.OK {
		t.Error(s, n, err)
	}
	if s, n, err := Parse("store 0 1 1 2 64\n"); !reflect.DeepEqual(s, Script{0, level.Config{Zero: 1, Base: 1, Times: 2, Table: 64}, nil}) || n != 0 || err != api.OK {
		t.Error(s, n, err)
	}
	lines := strings.SplitAfter(text, "\n")
	for i := range len(text) {
		want := strings.Count(text[:i], "\n") + 1
		s, n, err := Parse(text[:i])
		if i > 0 && text[i-1] == '\n' {
			if n != 0 || err != api.OK || len(s.Acts) != want-2 {
				t.Error(i, n, err)
			}
		} else if n != want || err != api.ErrForm || !reflect.DeepEqual(s, Script{}) {
			t.Error(i, n, err)
		}
	}
	for _, bad := range []string{"", " ", "flush ", " flush", "flush 1", "Flush", "push", "push 00", "push +1", "push -0", "push 1 2", "push 9223372036854775808", "push a", "arm", "arm 01", "crash 1", "crash 1 2 3", "crash  1 2", "crash a b", "rot 61 0", "rot 61 0 4294967296", "rot 61 0 -1", "rot - 0 1", "rot 6 0 1", "rot 6A 0 1", "rot 6g 0 1", "rot " + strings.Repeat("61", 25) + " 0 1", "rot 61 0 1 2",
		"opened r c ann bob", "opened r c ann bob ", "opened r c ann ann -", "opened r c ann bob 6", "opened r c ann bob 6F", "opened r c ann bob - -", "opened 1 c ann bob -", "ticked t", "ticked t -1", "ticked t 2932897", "fixed f SPX", "fixed f SPX 1.0", "fixed f 1 1", "chose h c ann 200 1", "chose h c ann 0 2", "chose h c ann 0", "novated n c ann ann", "filed y", "filed y c d", "cancelled x c", "store 0 1 1 2 64", "unknown", "flush\r", "crash" + strings.Repeat(" 1 1", 51)} {
		for _, at := range []int{1, 5, len(lines) - 1} {
			s := strings.Join(lines[:at], "") + bad + "\n" + strings.Join(lines[at:], "")
			if _, n, err := Parse(s); n != at+1 || err != api.ErrForm {
				t.Errorf("%q at %d: %d %d", bad, at, n, err)
			}
		}
	}
	for _, bad := range []string{"", "store", "store 0 1 1 2", "store 0 1 1 2 63", "store 0 0 1 2 64", "store -1 1 1 2 64", "store 16777217 1 1 2 64", "store 0 1 1 2 64 ", "store 00 1 1 2 64", "Store 0 1 1 2 64", "flush", "store 0 1 1 2 64 1"} {
		if s, n, err := Parse(bad + "\nflush\n"); n != 1 || err != api.ErrForm || !reflect.DeepEqual(s, Script{}) {
			t.Errorf("%q: %d %d", bad, n, err)
		}
	}
}

// P29.2
func TestRight(t *testing.T) {
	for i, f := range []func(*Script){
		func(s *Script) { s.Room = -1 }, func(s *Script) { s.Room = 1<<24 + 1 }, func(s *Script) { s.Config.Zero = 0 }, func(s *Script) { s.Acts = make([]Act, 401); fill(s.Acts) },
		func(s *Script) { s.Acts[0].Ask.Req = "" }, func(s *Script) { s.Acts[0].N = 1 }, func(s *Script) { s.Acts[0].Name = "a" }, func(s *Script) { s.Acts[0].Keep = make([]disk.Keep, 1) }, func(s *Script) { s.Acts[9].N = 1 }, func(s *Script) { s.Acts[9].At = 1 }, func(s *Script) { s.Acts[9].Ask = s.Acts[0].Ask }, func(s *Script) { s.Acts[9].Kind = -1 }, func(s *Script) { s.Acts[9].Kind = 10 }, func(s *Script) { s.Acts[11].At = 1 }, func(s *Script) { s.Acts[16].Bits = 1 }, func(s *Script) { s.Acts[17].N = 1 }, func(s *Script) { s.Acts[17].Keep = make([]disk.Keep, 51) }, func(s *Script) { s.Acts[19].Name = "" }, func(s *Script) { s.Acts[19].Name = strings.Repeat("n", 25) }, func(s *Script) { s.Acts[19].N = 1 }, func(s *Script) { s.Acts[19].Keep = make([]disk.Keep, 1) }, func(s *Script) { s.Acts[15].Name = "x" },
	} {
		s := all()
		f(&s)
		if Right(s) {
			t.Error(i)
		}
		if x, err := Print(s); x != "" || err != api.ErrArg {
			t.Error(i, err)
		}
		if x, err := Play(s); x != "" || err != api.ErrArg {
			t.Error(i, err)
		}
	}
	s := all()
	s.Acts = make([]Act, 400)
	fill(s.Acts)
	s.Acts[7] = Act{Kind: 8, Keep: make([]disk.Keep, 50)}
	s.Acts[8] = Act{Kind: 9, Name: strings.Repeat("n", 24)}
	x, err := Print(s)
	if y, n, e := Parse(x); !Right(s) || err != api.OK || !reflect.DeepEqual(s, y) || n != 0 || e != api.OK {
		t.Error(err, n, e)
	}
	if _, n, err := Parse(x + "flush\n"); n != 402 || err != api.ErrForm {
		t.Error(n, err)
	}
}

func fill(l []Act) {
	for i := range l {
		l[i].Kind = 1 + i%2
	}
}

// P29.2
func TestLong(t *testing.T) {
	head, _ := Print(Script{100000, config, nil})
	room := 1<<20 - len(head) - len("opened r c ann bob \n")
	s := Script{100000, config, []Act{opened("r", "c", strings.Repeat("x", room/2))}}
	x, err := Print(s)
	if y, n, e := Parse(x); err != api.OK || len(x) > 1<<20 || len(x) < 1<<20-1 || !reflect.DeepEqual(y, s) || n != 0 || e != api.OK {
		t.Error(len(x), err, n, e)
	}
	s.Acts[0].Ask.Text += "x"
	if x, err := Print(s); x != "" || err != api.ErrLong {
		t.Error(len(x), err)
	}
	s.Acts[0].Ask.Text = s.Acts[0].Ask.Text[1:]
	for len(x) != 1<<20 {
		if s.Acts[0].Ask.Req += "r"; len(s.Acts[0].Ask.Req) > 3 {
			t.Fatal(len(x))
		}
		x, err = Print(s)
	}
	if _, n, e := Parse(x); err != api.OK || n != 0 || e != api.OK {
		t.Error("just so long", err, n, e)
	}
	if !Right(Script{1 << 24, config, nil}) {
		t.Error("the greatest room")
	}
	if _, n, err := Parse(strings.Repeat("x", 1<<20+1)); n != 0 || err != api.ErrLong {
		t.Error(n, err)
	}
	if _, n, err := Parse(strings.Repeat("x", 1<<20)); n != 1 || err != api.ErrForm {
		t.Error(n, err)
	}
}

// P29.3
func TestPlay(t *testing.T) {
	for text, want := range map[string]string{
		"store 100000 4 4096 4 1024\nopened r c ann bob 6f6e652855534429\n":                                                  "0 0 bob ann USD 1\nday 0 1\naccount ann USD 1\naccount bob USD -1\ncontract c 2 0\n",
		"store 100000 4 4096 4 1024\n":                                                                                       "day 0 0\n",
		"store 0 4 4096 4 1024\nflush\narm 1\naudit\ncrash\nrot 61 0 1\n":                                                    "0 5\n1 0\n2 5\n3 5\n4 7\nclosed 5\n",
		"store 100000 4 4096 4 1024\narm 0\nopened r c ann bob -\nflush\n":                                                   "0 0\n1 11\n2 0\nday 0 0\n",
		"store 100000 4 4096 4 1024\narm 0\nticked r 5\nflush\naudit\n":                                                      "0 0\n1 6\n2 6\n3 6\nclosed 6\n",
		"store 100000 4 4096 4 1024\narm 0\nticked r 5\ncrash\nticked r 5\nflush\npush 0\ncompact\nrotate\ncollect\naudit\n": "0 0\n1 6\n2 0\n3 0\n4 0\n5 0\n6 0\n7 0\n8 0\n9 0\nday 5 1\n",
		"store 100000 4 4096 4 1024\nopened r c ann bob 6f7228656e6f2c207a65726f29\nopened r2 d ann bob 6f72287a65726f2c207a65726f29\nopened r3 e ann bob 7a65726f\nfiled r4 e\nfixed r5 X -3\n": "0 11\n1 0\n2 0\n3 0\n4 0\nday 0 4\ncontract d 1 1\nfiled e\n",
		"store 100000 4 4096 4 1024\nticked r 5\nrot 772e3030303030302e6c6f67 100 1\nrot 772e3030303030302e6c6f67 100000 1\ncrash\nticked r2 9\n":                                                "0 0\n1 0\n2 7\n3 9\n4 9\nclosed 9\n",
		"store 100000 4 4096 4 1024\nopened r c ann bob 616e64286f6e6528555344292c206f6e65284555522929\nopened r2 d bob ann 6f6e652855534429\n":                                                  "0 0 bob ann EUR 1 bob ann USD 1\n1 0 ann bob USD 1\nday 0 2\naccount ann EUR 1\naccount bob EUR -1\ncontract c 2 0\ncontract d 2 0\n",
	} {
		s, n, err := Parse(text)
		if err != api.OK {
			t.Fatal(text, n, err)
		}
		for range 2 {
			if got, err := Play(s); got != want || err != api.OK {
				t.Errorf("%s: %s %d", text, got, err)
			}
		}
	}
}

// P29.1
func TestWorld(t *testing.T) {
	if New(-1, config) != nil || New(1<<24+1, config) != nil {
		t.Error("New")
	}
	w := New(0, config)
	if w.Engine() != nil || w.Disk() == nil || w.Disk().Free() != 0 {
		t.Error("a world without an engine")
	}
	for k := range 7 {
		if l, err := w.Do(Act{Kind: k}); l != nil || err != api.ErrFull {
			t.Error(k, err)
		}
	}
	w = New(100000, level.Config{})
	if w.Engine() == nil {
		t.Error("no engine")
	}
	for k, want := range map[int]api.Errno{-1: api.ErrArg, 10: api.ErrArg, 0: api.ErrArg, 1: api.OK, 3: api.OK, 7: api.OK, 9: api.ErrNone} {
		if l, err := w.Do(Act{Kind: k, N: 5}); l != nil || err != want {
			t.Error(k, err)
		}
	}
	g := w.Engine()
	if _, err := w.Do(Act{Kind: 8}); err != api.OK || w.Engine() == g || w.Engine() == nil {
		t.Error("opened anew", err)
	}
	if l, err := w.Do(opened("r", "c", "one(USD)")); len(l) != 1 || err != api.OK {
		t.Error(l, err)
	}
	if _, err := w.Do(Act{Kind: 9, Name: "CURRENT", At: 3, Bits: 1}); err != api.OK {
		t.Error(err)
	}
	if _, err := w.Do(Act{Kind: 8}); err != api.ErrCorrupt || w.Engine() != nil {
		t.Error(err)
	}
	if _, err := w.Do(Act{Kind: 6}); err != api.ErrCorrupt {
		t.Error(err)
	}
	if _, err := w.Do(Act{Kind: 11}); err != api.ErrArg {
		t.Error(err)
	}
	var none *World
	if l, err := none.Do(Act{Kind: 7}); l != nil || err != api.ErrArg || none.Engine() != nil || none.Disk() != nil {
		t.Error("nil")
	}
}

// P29.4
func TestAgain(t *testing.T) {
	r := rand.New(rand.NewSource(1))
	for range 60 {
		s := Script{3000 + r.Intn(1<<17), config, nil}
		for i := range r.Intn(100) {
			req, id := fmt.Sprint("r", i), string(rune('a'+r.Intn(4)))
			switch r.Intn(12) {
			case 0, 1, 2:
				s.Acts = append(s.Acts, opened(req, id, []string{"one(USD)", "or(zero, one(EUR))", "scale(X, one(USD))", "$"}[r.Intn(4)]))
			case 3:
				s.Acts = append(s.Acts, Act{Ask: engine.Ask{Kind: event.Ticked, Req: req, Day: i}})
			case 4:
				s.Acts = append(s.Acts, Act{Ask: engine.Ask{Kind: event.Fixed, Req: req, A: "X", N: int64(i)}})
			case 5:
				s.Acts = append(s.Acts, Act{Ask: engine.Ask{Kind: event.Filed, Req: req, Id: id}})
			case 6:
				s.Acts = append(s.Acts, Act{Kind: 7, N: r.Intn(20)})
			case 7:
				s.Acts = append(s.Acts, Act{Kind: 8, Keep: []disk.Keep{{Bytes: r.Intn(100), Sector: r.Intn(3) - 1}, {Bytes: r.Intn(100), Sector: r.Intn(3) - 1}}})
			case 8:
				if r.Intn(20) == 0 {
					s.Acts = append(s.Acts, Act{Kind: 9, Name: "w.000000.log", At: r.Intn(2000), Bits: r.Uint32()})
				}
			default:
				s.Acts = append(s.Acts, Act{Kind: []int{1, 2, 4, 5, 6}[r.Intn(5)]})
			}
		}
		x, err := Print(s)
		y, n, e := Parse(x)
		if err != api.OK || e != api.OK || n != 0 || !reflect.DeepEqual(y, s) {
			t.Fatal(x, n, e)
		}
		a, e1 := Play(s)
		b, e2 := Play(y)
		if a != b || e1 != api.OK || e2 != api.OK {
			t.Fatal(a, b)
		}
	}
}
