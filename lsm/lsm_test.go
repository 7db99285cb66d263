package lsm

import (
	"fmt"
	"maps"
	"math"
	"math/rand"
	"reflect"
	"slices"
	"strings"
	"testing"

	"debenture/api"
	"debenture/block"
	"debenture/codec"
	"debenture/cursor"
	"debenture/disk"
	"debenture/edit"
	"debenture/level"
	"debenture/manifest"
	"debenture/table"
	"debenture/wal"
)

var small = level.Config{Zero: 2, Base: 600, Times: 2, Table: 200}

func want(t *testing.T, what string, got, want api.Errno) {
	t.Helper()
	if got != want {
		t.Fatalf("%s: %d, want %d", what, got, want)
	}
}

func opened(t *testing.T, d *disk.Disk, c level.Config) *Store {
	t.Helper()
	s, err := Open(d, c)
	want(t, "Open", err, api.OK)
	return s
}

type state map[string]string

func (m state) apply(l []Op) state {
	n := maps.Clone(m)
	if n == nil {
		n = state{}
	}
	for _, op := range l {
		if op.Gone {
			delete(n, op.Key)
		} else {
			n[op.Key] = op.Value
		}
	}
	return n
}

func (m state) scan(from, to string, most int) []block.Pair {
	var l []block.Pair
	for _, k := range slices.Sorted(maps.Keys(m)) {
		if k >= from && (to == "" || k < to) && len(l) < most {
			l = append(l, block.Pair{Key: k, Value: m[k]})
		}
	}
	return l
}

func key(r *rand.Rand) string {
	return string(rune('a'+r.Intn(5))) + fmt.Sprint(r.Intn(8))
}

func batch(r *rand.Rand) []Op {
	var l []Op
	for range 1 + r.Intn(4) {
		op := Op{Key: key(r), Gone: r.Intn(3) == 0}
		if !op.Gone {
			op.Value = strings.Repeat("v", r.Intn(60)) + fmt.Sprint(r.Intn(1000))
		}
		l = append(l, op)
	}
	return l
}

// maintain does one thing that changes no answer.
func maintain(s *Store, r *rand.Rand) api.Errno {
	switch r.Intn(6) {
	case 0, 1:
		return s.Flush()
	case 2:
		_, err := s.Compact()
		return err
	case 3:
		_, err := s.Push(r.Intn(4))
		return err
	case 4:
		return s.Rotate()
	}
	_, err := s.Collect()
	return err
}

// P16.2, P16.3, P16.4
func TestModel(t *testing.T) {
	r := rand.New(rand.NewSource(1))
	for range 60 {
		d := disk.New(1 << 23)
		s := opened(t, d, small)
		states := []state{{}}
		held := map[int]int{}
		for range 200 {
			now := len(states) - 1
			switch r.Intn(10) {
			case 0, 1, 2, 3:
				l := batch(r)
				want(t, "Write", s.Write(l), api.OK)
				states = append(states, states[now].apply(l))
			case 4, 5, 6:
				want(t, "maintain", maintain(s, r), api.OK)
			case 7:
				if n := s.Snapshot(); n != now {
					t.Fatal("Snapshot", n)
				}
				held[now]++
			case 8:
				n := r.Intn(now + 1)
				if s.Release(n) != (held[n] > 0) {
					t.Fatal("Release", n)
				}
				if held[n] > 0 {
					held[n]--
				}
			case 9:
				if r.Intn(6) == 0 {
					s = opened(t, d, small)
					clear(held)
				}
			}
			compare(t, s, states, held, r)
		}
		want(t, "Verify", s.Verify(), api.OK)
	}
}

func compare(t *testing.T, s *Store, states []state, held map[int]int, r *rand.Rand) {
	t.Helper()
	now := len(states) - 1
	if i := s.Info(); i.Seq != now {
		t.Fatal("Info", i)
	}
	for seq, m := range states {
		if seq != now && held[seq] == 0 {
			continue
		}
		k := key(r)
		v, ok, err := s.GetAt(k, seq)
		w, is := m[k]
		if v != w || ok != is || err != api.OK {
			t.Fatal("GetAt", k, seq, v, w, err)
		}
		from, to, most := key(r), key(r), r.Intn(9)
		if r.Intn(3) == 0 {
			from, to, most = "", "", math.MaxInt
		}
		l, err := s.ScanAt(from, to, most, seq)
		if !slices.Equal(l, m.scan(from, to, most)) || err != api.OK {
			t.Fatal("ScanAt", from, to, most, seq, l, err)
		}
	}
}

// P16.3
func TestExample(t *testing.T) {
	d := disk.New(100000)
	s := opened(t, d, level.Config{})
	s.Write([]Op{{Key: "a", Value: "1"}})
	if i := s.Info(); !reflect.DeepEqual(i, Info{1, 1, 0, []int{0, 0, 0, 0, 0}, 0}) {
		t.Error(i)
	}
	want(t, "Flush", s.Flush(), api.OK)
	if i := s.Info(); !reflect.DeepEqual(i, Info{1, 0, 1, []int{1, 0, 0, 0, 0}, 1}) {
		t.Error(i)
	}
	s.Write([]Op{{Key: "a", Gone: true}})
	want(t, "Flush", s.Flush(), api.OK)
	want(t, "Flush of nothing", s.Flush(), api.OK)
	if i := s.Info(); !reflect.DeepEqual(i, Info{2, 0, 2, []int{2, 0, 0, 0, 0}, 2}) {
		t.Error(i)
	}
	if ok, err := s.Push(0); !ok || err != api.OK {
		t.Error(err)
	}
	if i := s.Info(); i.Tables != 0 {
		t.Error(i)
	}
	if l := d.Names(); !slices.Equal(l, []string{"CURRENT", "maa.000000.ack", "maa.000000.log"}) {
		t.Error(l)
	}
	for _, n := range []int{-1, 0, 1, 4, 9} {
		if ok, err := s.Push(n); ok || err != api.OK {
			t.Error(n, err)
		}
	}
	if ok, err := s.Compact(); ok || err != api.OK {
		t.Error(err)
	}
	s.Write([]Op{{Key: "b", Gone: true}})
	want(t, "Flush", s.Flush(), api.OK)
	if i := s.Info(); i.Tables != 0 || i.Memory != 0 || i.Log != 3 {
		t.Error("a deletion with nothing below isn't kept", i)
	}
}

// P16.3: what is kept
func TestKept(t *testing.T) {
	d := disk.New(100000)
	s := opened(t, d, level.Config{})
	put := func(v string) { s.Write([]Op{{Key: "a", Value: v, Gone: v == ""}}) }
	put("1")
	put("2")
	put("3")
	s.Snapshot()
	put("4")
	put("")
	s.Snapshot()
	put("6")
	s.Flush()
	f := s.version.Files[0]
	if f.Count != 3 || f.First != "a" || f.Last != "a" {
		t.Error(f) // 6, gone, 3
	}
	for seq, v := range map[int]string{3: "3", 5: "", 6: "6"} {
		if w, ok, _ := s.GetAt("a", seq); w != v || ok != (v != "") {
			t.Error(seq, w)
		}
	}
	s.Release(3)
	s.Push(0)
	if f := s.version.Files[0]; f.Count != 1 || f.Level != 1 {
		t.Error("the eldest, a deletion, isn't kept", f)
	}
	s.Push(1)
	if f := s.version.Files[0]; f.Level != 2 || f.Num != s.version.Next-1 {
		t.Error("a file that is moved is the same", f)
	}
	put("")
	s.Flush()
	s.Push(0)
	if i := s.Info(); !slices.Equal(i.Levels, []int{0, 1, 1, 0, 0}) {
		t.Error("a deletion with something below is kept", i)
	}
}

// P16.1
func TestOpen(t *testing.T) {
	if s, err := Open(nil, small); s != nil || err != api.ErrArg {
		t.Error(err)
	}
	batchOf := func(seq int, l ...Op) string { return encode(seq, l) }
	a := Op{Key: "a", Value: "1"}
	if s := batchOf(300, a, Op{Key: "b", Gone: true}); s != "\xac\x02\x02\x01a\x01\x011\x01b\x00" {
		t.Errorf("%x", s)
	}
	head := new(codec.Writer).Size(1).Size(1).Bytes()
	for what, c := range map[string]struct {
		records []string
		err     api.Errno
	}{
		"good": {[]string{batchOf(1, a), batchOf(2, a)}, api.OK}, "again": {[]string{batchOf(1, a), batchOf(1, a)}, api.ErrCorrupt}, "beyond": {[]string{batchOf(2, a)}, api.ErrCorrupt},
		"empty": {[]string{""}, api.ErrCorrupt}, "more": {[]string{batchOf(1, a) + "x"}, api.ErrCorrupt}, "cut": {[]string{batchOf(1, a)[:5]}, api.ErrCorrupt},
		"kind": {[]string{head + "\x01a\x02"}, api.ErrCorrupt}, "no key": {[]string{head + "\x00\x00"}, api.ErrCorrupt}, "key": {[]string{batchOf(1, Op{Key: "a\x00"})}, api.ErrCorrupt},
		"long key": {[]string{batchOf(1, Op{Key: strings.Repeat("k", 65)})}, api.ErrCorrupt}, "long value": {[]string{batchOf(1, Op{Key: "k", Value: strings.Repeat("v", 15001)})}, api.ErrCorrupt},
		"fewer": {[]string{new(codec.Writer).Size(1).Size(2).Bytes() + "\x01a\x00"}, api.ErrCorrupt}, "many": {[]string{batchOf(1, slices.Repeat([]Op{a}, 401)...)}, api.ErrCorrupt}, "400": {[]string{batchOf(1, slices.Repeat([]Op{a}, 400)...)}, api.OK},
	} {
		d := disk.New(100000)
		manifest.Open(d)
		w, _, _ := wal.Open(d, "w")
		for _, r := range c.records {
			w.Append(r)
			w.Rotate()
		}
		d.Append("000077.tab", "junk")
		d.Append("mzz.junk", "junk")
		s, err := Open(d, small)
		if err != c.err || (s == nil) != (err != api.OK) {
			t.Error(what, err)
		}
		if slices.Contains(d.Names(), "000077.tab") || slices.Contains(d.Names(), "mzz.junk") {
			t.Error("not collected")
		}
	}
}

// P16.1: segments below the version's log's number count for nothing
func TestSegments(t *testing.T) {
	d := disk.New(100000)
	s := opened(t, d, small)
	s.Write([]Op{{Key: "a", Value: "1"}})
	s.Rotate()
	s.Write([]Op{{Key: "b", Value: "2"}})
	d.Arm(4 + 2) // the table, the manifest; then the first segment isn't retired
	d.Arm(2 + 4)
	want(t, "Flush", s.Flush(), api.ErrOff)
	d.Crash(nil)
	s = opened(t, d, small)
	if i := s.Info(); i.Memory != 0 || i.Tables != 1 || i.Seq != 2 || i.Log != 2 {
		t.Error(i)
	}
	for _, name := range d.Names() {
		if strings.HasPrefix(name, "w.") {
			t.Error("not retired", name)
		}
	}
	s = opened(t, d, small)
	want(t, "Write", s.Write([]Op{{Key: "c", Value: "3"}}), api.OK)
	s = opened(t, d, small)
	if v, ok, err := s.Get("c"); v != "3" || !ok || err != api.OK {
		t.Error(v, err)
	}
}

// P16.2
func TestWrong(t *testing.T) {
	d := disk.New(1 << 22)
	s := opened(t, d, small)
	long := strings.Repeat("k", 64)
	many := make([]Op, 400)
	for i := range many {
		many[i] = Op{Key: fmt.Sprint("k", i), Value: "v"}
	}
	want(t, "none", s.Write(nil), api.OK)
	want(t, "400", s.Write(many), api.OK)
	want(t, "401, and wrong", s.Write(append(many, Op{})), api.ErrLong)
	want(t, "the greatest", s.Write([]Op{{Key: long, Value: strings.Repeat("v", 15000)}}), api.OK)
	for _, op := range []Op{{}, {Key: "a\x00"}, {Key: long + "k"}, {Key: "a", Value: strings.Repeat("v", 15001)}, {Key: "a", Value: "v", Gone: true}} {
		want(t, "wrong", s.Write([]Op{{Key: "good", Value: "v"}, op}), api.ErrArg)
	}
	var great []Op
	for i := range 9 {
		great = append(great, Op{Key: fmt.Sprint(i), Value: strings.Repeat("v", 15000)})
	}
	want(t, "longer than a frame", s.Write(great), api.ErrLong)
	if i := s.Info(); i.Seq != 2 || i.Memory != 401 {
		t.Error(i)
	}
	for _, k := range []string{"", "a\x00", long + "k"} {
		if _, _, err := s.Get(k); err != api.ErrArg {
			t.Error(k, err)
		}
	}
	for _, seq := range []int{-1, 3, math.MaxInt, math.MinInt} {
		if _, _, err := s.GetAt("a", seq); err != api.ErrArg {
			t.Error(seq, err)
		}
		if _, err := s.ScanAt("", "", 1, seq); err != api.ErrArg {
			t.Error(seq, err)
		}
	}
	if _, err := s.Scan("", "", -1); err != api.ErrArg {
		t.Error(err)
	}
	if l, err := s.Scan("", "", 0); l != nil || err != api.OK {
		t.Error(err)
	}
	want(t, "twice", s.Write([]Op{{Key: "x", Value: "1"}, {Key: "x", Gone: true}, {Key: "x", Value: "3"}, {Key: "y", Value: "3"}, {Key: "y", Gone: true}}), api.OK)
	if v, _, _ := s.Get("x"); v != "3" {
		t.Error("the last one counts", v)
	}
	if _, ok, _ := s.Get("y"); ok {
		t.Error("the last one counts")
	}
	var none *Store
	_, _, e1 := none.Get("a")
	_, _, e2 := none.GetAt("a", 0)
	_, e3 := none.Scan("", "", 1)
	_, e4 := none.ScanAt("", "", 1, 0)
	_, e5 := none.Compact()
	_, e6 := none.Push(0)
	_, e7 := none.Collect()
	for i, err := range []api.Errno{e1, e2, e3, e4, e5, e6, e7, none.Write(nil), none.Flush(), none.Rotate(), none.Verify(), none.Err()} {
		if err != api.ErrArg {
			t.Error("nil", i, err)
		}
	}
	if none.Snapshot() != -1 || none.Release(0) || !reflect.DeepEqual(none.Info(), Info{}) {
		t.Error("nil")
	}
}

// P16.2
func TestOff(t *testing.T) {
	d := disk.New(100000)
	s := opened(t, d, small)
	s.Write([]Op{{Key: "a", Value: "1"}})
	d.Arm(1)
	want(t, "off", s.Write([]Op{{Key: "b", Value: "1"}}), api.ErrOff)
	_, _, e1 := s.Get("a")
	_, e2 := s.Scan("", "", -5)
	_, e3 := s.Compact()
	_, e4 := s.Collect()
	for i, err := range []api.Errno{e1, e2, e3, e4, s.Err(), s.Write(nil), s.Write(make([]Op, 500)), s.Flush(), s.Rotate(), s.Verify()} {
		if err != api.ErrOff {
			t.Error(i, err)
		}
	}
	if s.Snapshot() != 1 || !s.Release(1) || s.Info().Seq != 1 {
		t.Error("Snapshot, Release, Info")
	}
	d.Crash(nil)
	want(t, "it stays", s.Err(), api.ErrOff)
	s = opened(t, d, small)
	d.Arm(0)
	d.Sync("x")
	if _, _, err := s.Get("a"); err != api.ErrOff {
		t.Error("the power is gone", err)
	}
}

// P16.2, P16.3
func TestFull(t *testing.T) {
	r := rand.New(rand.NewSource(3))
	full := 0
	for range 80 {
		d := disk.New(300 + r.Intn(6000))
		s, err := Open(d, small)
		if err != api.OK {
			want(t, "Open", err, api.ErrFull)
			continue
		}
		m := state{}
		for range 120 {
			if r.Intn(2) == 0 {
				l := batch(r)
				err = s.Write(l)
				if err == api.OK {
					m = m.apply(l)
				}
			} else {
				before, names := s.Info(), d.Names()
				err = maintain(s, r)
				if err != api.OK && !reflect.DeepEqual(before, s.Info()) {
					t.Fatal("changed", before, s.Info())
				}
				if err != api.OK && len(d.Names()) > len(names) {
					t.Fatal("left over", d.Names(), names)
				}
			}
			if err != api.OK {
				want(t, "full", err, api.ErrFull)
				full++
			}
			if l, err := s.Scan("", "", 1000); err != api.OK || !slices.Equal(l, m.scan("", "", 1000)) {
				t.Fatal(l, err)
			}
		}
		if s, err := Open(d, small); err == api.OK {
			if l, err := s.Scan("", "", 1000); err != api.OK || !slices.Equal(l, m.scan("", "", 1000)) {
				t.Fatal(l, err)
			}
		}
	}
	if full == 0 {
		t.Error("never full")
	}
}

// P16.3
func TestBusy(t *testing.T) {
	d := disk.New(1 << 22)
	s := opened(t, d, level.Config{Table: 64})
	for i := range 100 {
		s.Write([]Op{{Key: fmt.Sprintf("k%03d", i), Value: strings.Repeat("v", 100)}})
		want(t, "Flush", s.Flush(), api.OK)
	}
	s.Write([]Op{{Key: "x", Value: strings.Repeat("v", 100)}})
	want(t, "Flush", s.Flush(), api.ErrBusy)
	if i := s.Info(); i.Memory != 1 || i.Tables != 100 || len(d.Names()) != 103+2 {
		t.Error(i, len(d.Names()))
	}
	for i := range 50 {
		s.Write([]Op{{Key: fmt.Sprintf("k%03d", 2*i), Gone: true}})
	}
	before := s.Info()
	if ok, err := s.Push(0); ok || err != api.ErrLong || !reflect.DeepEqual(s.Info(), before) {
		t.Error("more files than a disk may have", err, s.Info())
	}
	s = opened(t, d, level.Config{Table: 1000})
	if ok, err := s.Push(0); !ok || err != api.OK {
		t.Error(err)
	}
	want(t, "Flush", s.Flush(), api.OK)
	if v, ok, err := s.Get("k001"); len(v) != 100 || !ok || err != api.OK {
		t.Error(err)
	}
	if _, ok, _ := s.Get("k002"); ok {
		t.Error("deleted")
	}
}

// P16.3: a table ends behind the key by which it is great enough, and is never greater than a file may be
func TestGreat(t *testing.T) {
	d := disk.New(1 << 24)
	s := opened(t, d, level.Config{Table: 1 << 18})
	v := strings.Repeat("v", 15000)
	for i := range 40 {
		want(t, "Write", s.Write([]Op{{Key: fmt.Sprintf("k%03d", i), Value: v}}), api.OK)
	}
	want(t, "Flush", s.Flush(), api.OK)
	if i := s.Info(); i.Levels[0] != 3 {
		t.Error(i)
	}
	if ok, err := s.Push(0); !ok || err != api.OK || s.Info().Levels[1] != 3 {
		t.Error(err, s.Info())
	}
	for range 72 {
		s.Write([]Op{{Key: "one", Value: v}})
		s.Snapshot()
	}
	before, names := s.Info(), d.Names()
	want(t, "a table that is too great", s.Flush(), api.ErrLong)
	if !reflect.DeepEqual(s.Info(), before) || !slices.Equal(d.Names(), names) {
		t.Error("changed", s.Info())
	}
	want(t, "Write", s.Write([]Op{{Key: "b", Value: v}}), api.OK)
	for seq := range 60 {
		s.Release(seq + 41)
	}
	want(t, "Flush", s.Flush(), api.OK)
}

func keeps(r *rand.Rand) []disk.Keep {
	l := make([]disk.Keep, 40)
	for i := range l {
		l[i] = disk.Keep{Bytes: r.Intn(300) - 50, Sector: r.Intn(8) - 2}
	}
	return l
}

// P16.4
func TestCrashes(t *testing.T) {
	r := rand.New(rand.NewSource(4))
	for range 300 {
		d := disk.New(1 << 22)
		sure, maybe := state{}, state(nil)
		d.Arm(r.Intn(60))
		for range 6 {
			s, err := Open(d, small)
			for err != api.OK {
				want(t, "Open", err, api.ErrOff)
				d.Crash(keeps(r))
				if r.Intn(2) == 0 {
					d.Arm(r.Intn(12))
				}
				s, err = Open(d, small)
			}
			l, err := s.Scan("", "", 1000)
			if maybe != nil && slices.Equal(l, maybe.scan("", "", 1000)) {
				sure = maybe
			}
			maybe = nil
			if err == api.OK && !slices.Equal(l, sure.scan("", "", 1000)) {
				t.Fatal(l, sure)
			}
			if err == api.OK {
				want(t, "Verify", s.Verify(), api.OK)
			}
			d.Arm(r.Intn(80))
			for d.On() {
				if r.Intn(2) == 0 {
					l := batch(r)
					if s.Write(l) == api.OK {
						sure = sure.apply(l)
					} else {
						maybe = sure.apply(l)
					}
				} else {
					maintain(s, r)
				}
			}
			d.Crash(keeps(r))
		}
	}
}

// P16.4
func TestBursts(t *testing.T) {
	r := rand.New(rand.NewSource(5))
	corrupt := 0
	for range 600 {
		d := disk.New(1 << 22)
		s := opened(t, d, small)
		m := state{}
		for range 20 {
			l := batch(r)
			s.Write(l)
			m = m.apply(l)
			if r.Intn(3) == 0 {
				maintain(s, r)
			}
		}
		if r.Intn(2) == 0 {
			s = opened(t, d, small)
		}
		names := d.Names()
		name := names[r.Intn(len(names))]
		if d.Safe(name) == 0 {
			continue
		}
		d.Rot(name, r.Intn(8*d.Safe(name)), r.Uint32()|1)
		if r.Intn(2) == 0 {
			var err api.Errno
			s, err = Open(d, small)
			if err == api.ErrCorrupt {
				corrupt++
				continue
			}
			want(t, "Open", err, api.OK)
		}
		for range 30 {
			k := key(r)
			v, ok, err := s.Get(k)
			w, is := m[k]
			if err == api.OK && (v != w || ok != is) {
				t.Fatal("Get", k, v, w)
			}
			l, e := s.Scan("", "", 1000)
			if e == api.OK && !slices.Equal(l, m.scan("", "", 1000)) {
				t.Fatal("Scan", l)
			}
			if err == api.ErrCorrupt || e == api.ErrCorrupt {
				corrupt++
				before := d.Calls()
				if s.Err() != api.ErrCorrupt || s.Write(batch(r)) != api.ErrCorrupt || maintain(s, r) != api.ErrCorrupt || d.Calls() != before {
					t.Fatal("something is changed")
				}
				break
			}
			if r.Intn(3) == 0 {
				maintain(s, r)
			}
		}
	}
	if corrupt < 100 {
		t.Error("seldom corrupt", corrupt)
	}
}

// P16.3
func TestVerify(t *testing.T) {
	for _, spoil := range []func(*disk.Disk){
		func(d *disk.Disk) { d.Rot("000001.tab", 100, 1) },
		func(d *disk.Disk) { d.Delete("000001.tab") },
	} {
		for _, again := range []bool{false, true} {
			d := disk.New(100000)
			s := opened(t, d, small)
			s.Write([]Op{{Key: "a", Value: strings.Repeat("1", 99)}})
			s.Flush()
			s.Get("a")
			spoil(d)
			if again {
				s = opened(t, d, small)
			}
			want(t, "Verify", s.Verify(), api.ErrCorrupt)
			want(t, "Err", s.Err(), api.ErrCorrupt)
		}
	}
	d := disk.New(100000)
	s := opened(t, d, small)
	s.Write([]Op{{Key: "a", Value: "1"}})
	s.Flush()
	s = opened(t, d, small)
	d.Delete("000001.tab")
	if _, _, err := s.Get("b"); err != api.OK {
		t.Error("a table that needn't be asked", err)
	}
	if _, _, err := s.Get("a"); err != api.ErrCorrupt {
		t.Error(err)
	}
}

// P16.3
func TestCompact(t *testing.T) {
	d := disk.New(100000)
	s := opened(t, d, level.Config{Zero: 2, Base: 1 << 20, Times: 2, Table: 1000})
	for i := range 2 {
		if ok, err := s.Compact(); ok || err != api.OK || s.Info().Levels[1] != 0 {
			t.Error("nothing is pressing", i, err)
		}
		s.Write([]Op{{Key: fmt.Sprint("k", i), Value: "v"}})
		s.Flush()
	}
	if ok, err := s.Compact(); !ok || err != api.OK || !slices.Equal(s.Info().Levels, []int{0, 1, 0, 0, 0}) {
		t.Error(s.Info(), err)
	}
	if ok, err := s.Compact(); ok || err != api.OK || s.Info().Levels[1] != 1 {
		t.Error(s.Info(), err)
	}
}

// P16.3: tables that would be too many aren't laid
func TestPushBusy(t *testing.T) {
	d := disk.New(1 << 20)
	s := opened(t, d, level.Config{Table: 64})
	for i := range 101 {
		s.Write([]Op{{Key: fmt.Sprintf("k%03d", i), Value: strings.Repeat("v", 90)}})
	}
	want(t, "Flush", s.Flush(), api.OK)
	before, calls := s.Info(), d.Calls()
	if ok, err := s.Push(0); ok || err != api.ErrBusy || !reflect.DeepEqual(s.Info(), before) || d.Calls() != calls {
		t.Error(s.Info(), err)
	}
	s.Write([]Op{{Key: "k000", Gone: true}})
	want(t, "Flush", s.Flush(), api.OK)
	if ok, err := s.Push(0); !ok || err != api.OK || s.Info().Levels[1] != 100 {
		t.Error(s.Info(), err)
	}
}

// P16.3: a table ends by just as many bytes
func TestExact(t *testing.T) {
	b := table.NewBuilder(blockSize)
	inner, _ := cursor.Pack("a", 1)
	b.Add(inner, "P"+strings.Repeat("v", 90))
	for more, tables := range map[int]int{0: 2, 1: 1} {
		s := opened(t, disk.New(100000), level.Config{Table: b.Size() + more})
		s.Write([]Op{{Key: "a", Value: strings.Repeat("v", 90)}, {Key: "b", Value: strings.Repeat("v", 90)}})
		s.Flush()
		s.Push(0)
		if s.Info().Tables != tables {
			t.Error(more, s.Info())
		}
	}
}

// strange is a store with a table of level 0 of these pairs.
func strange(t *testing.T, first, last string, l ...block.Pair) *Store {
	t.Helper()
	d := disk.New(1 << 20)
	m, _ := manifest.Open(d)
	b := table.NewBuilder(64)
	for _, p := range l {
		b.Add(p.Key, p.Value)
	}
	bytes, meta := b.Finish()
	num, _ := m.Number()
	d.Append(manifest.Name(num), bytes)
	d.Sync(manifest.Name(num))
	e := edit.Edit{Log: -1, Next: -1, Seq: 9, Add: []edit.File{{Num: num, First: first, Last: last, Count: meta.Count, Size: meta.Size}}}
	want(t, "Log", m.Log(e), api.OK)
	return opened(t, d, small)
}

// P16.2, P16.3: tables of what is no inner pair
func TestStrange(t *testing.T) {
	a1, _ := cursor.Pack("a", 1)
	b1, _ := cursor.Pack("b", 1)
	good := func() *Store {
		return strange(t, "a", "b", block.Pair{Key: a1, Value: "P1"}, block.Pair{Key: b1, Value: "D"})
	}
	if v, ok, err := good().Get("a"); v != "1" || !ok || err != api.OK {
		t.Error(v, err)
	}
	if v, ok, err := good().Get("b"); v != "" || ok || err != api.OK {
		t.Error(v, err)
	}
	for i, l := range [][]block.Pair{{{Key: a1, Value: "X"}}, {{Key: a1, Value: ""}}, {{Key: a1, Value: "DD"}}, {{Key: "a\x00zz", Value: "P"}}} {
		make := func() *Store { return strange(t, "a", "b", l...) }
		if _, _, err := make().Get("a"); err != api.ErrCorrupt {
			t.Error(i, err)
		}
		if _, err := make().Scan("", "", 9); err != api.ErrCorrupt {
			t.Error(i, err)
		}
		s := make()
		if ok, err := s.Push(0); ok || err != api.ErrCorrupt || s.Err() != api.ErrCorrupt {
			t.Error(i, err)
		}
	}
}

// P16.2, P16.3: a block that is spoilt
func TestSpoilt(t *testing.T) {
	begin := func() *Store {
		d := disk.New(1 << 20)
		s := opened(t, d, small)
		for _, k := range []string{"a", "c", "e"} {
			s.Write([]Op{{Key: k, Value: strings.Repeat("v", 5000)}})
		}
		s.Flush()
		d.Rot("000001.tab", 8*7000, 1)
		return opened(t, d, small)
	}
	s := begin()
	if _, ok, err := s.Get("a"); !ok || err != api.OK {
		t.Error("a block that is whole", err)
	}
	if _, ok, err := s.Get("b"); ok || err != api.OK {
		t.Error("what isn't there needn't be asked", err)
	}
	if _, ok, err := s.Get("c"); ok || err != api.ErrCorrupt {
		t.Error(err)
	}
	if _, _, err := s.Get("a"); err != api.ErrCorrupt {
		t.Error("it stays", err)
	}
	s = begin()
	names := s.d.Names()
	if ok, err := s.Push(0); ok || err != api.ErrCorrupt || s.Err() != api.ErrCorrupt || !slices.Equal(s.d.Names(), names) {
		t.Error(err)
	}
	if l, err := begin().Scan("a", "", 1); len(l) != 1 || err != api.OK {
		t.Error("what stands behind isn't asked", err)
	}
	if l, err := begin().Scan("a", "", 2); l != nil || err != api.ErrCorrupt {
		t.Error(err)
	}
}
