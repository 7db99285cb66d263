package wal

import (
	"math"
	"math/rand"
	"slices"
	"strconv"
	"strings"
	"testing"

	"debenture/api"
	"debenture/codec"
	"debenture/crc"
	"debenture/disk"
)

func want(t *testing.T, what string, got, want api.Errno) {
	t.Helper()
	if got != want {
		t.Fatalf("%s: %d, want %d", what, got, want)
	}
}

func open(t *testing.T, d *disk.Disk) (*Wal, []Rec) {
	t.Helper()
	w, l, err := Open(d, "w")
	want(t, "Open", err, api.OK)
	return w, l
}

func framed(s string) string {
	f, _ := crc.Frame(s)
	return f
}

func marked(n int) string {
	s := new(codec.Writer).Fixed8(uint64(n)).Bytes()
	return s + crc.Laid(s)
}

func put(d *disk.Disk, name, data string) {
	d.Delete(name)
	d.Append(name, data)
	d.Sync(name)
}

// P6.1
func TestOpen(t *testing.T) {
	d := disk.New(10000)
	for _, name := range []string{"", "abcdefghi", "A", "a1", "a.", "ä"} {
		if w, l, err := Open(d, name); w != nil || l != nil || err != api.ErrArg {
			t.Error(name, err)
		}
	}
	for _, name := range []string{"abcdefgh", "az"} {
		if w, _, err := Open(disk.New(0), name); w == nil || err != api.OK {
			t.Error(name, err)
		}
	}
	off := disk.New(0)
	off.Arm(0)
	off.Sync("x")
	if w, _, err := Open(off, "w"); w != nil || err != api.ErrOff {
		t.Error("off, and empty", err)
	}
	if w, _, err := Open(nil, "w"); w != nil || err != api.ErrArg {
		t.Error("no disk", err)
	}
	w, l := open(t, d)
	if w.Number() != 0 || l != nil || d.Names() != nil {
		t.Error("an empty log")
	}
	want(t, "Append", w.Append("a"), api.OK)
	if w.Rotate() != 1 || w.Rotate() != 1 || w.Number() != 1 {
		t.Error("Rotate")
	}
	want(t, "Append", w.Append("b"), api.OK)
	if !slices.Equal(d.Names(), []string{"w.000000.ack", "w.000000.log", "w.000001.ack", "w.000001.log"}) {
		t.Error(d.Names())
	}
	if s, _ := d.Read("w.000000.log"); s != framed("a") {
		t.Errorf("%x", s)
	}
	if s, _ := d.Read("w.000000.ack"); s != marked(1) {
		t.Errorf("%x", s)
	}
	for _, name := range []string{"x.000005.log", "w.000009.new", "w.0000007.log", "w.00007.log", "w.+00007.log", "w.-00007.log", "w.00000a.log", "w.000007.tmp", "w.1000000.log", "ww.000008.log", "000005.log"} {
		put(d, name, "junk")
	}
	w, l = open(t, d)
	if !slices.Equal(l, []Rec{{0, "a"}, {1, "b"}}) || w.Number() != 2 {
		t.Error(l, w.Number())
	}
	d.Arm(0)
	d.Sync("x")
	if w, l, err := Open(d, "w"); w != nil || l != nil || err != api.ErrOff {
		t.Error("off", err)
	}
}

// P6.1
func TestSeal(t *testing.T) {
	const seals = 1 << 32
	for _, c := range []struct {
		log, ack string
		want     []string
		err      api.Errno
		after    string
	}{
		{framed("a") + framed("b"), marked(1) + marked(2), []string{"a", "b"}, api.OK, marked(1) + marked(2)},
		{framed("a") + framed("b"), marked(1), []string{"a", "b"}, api.OK, marked(seals + 2)},
		{framed("a") + framed("b"), "", []string{"a", "b"}, api.OK, marked(seals + 2)},
		{framed("a") + "torn", marked(1), []string{"a"}, api.OK, marked(seals + 1)},
		{framed("a") + "torn", marked(2), nil, api.ErrCorrupt, marked(2)},
		{framed("a"), marked(2) + marked(1), nil, api.ErrCorrupt, marked(2) + marked(1)},
		{framed("a") + framed("b"), marked(seals + 1), []string{"a"}, api.OK, marked(seals + 1)},
		{framed("a") + framed("b"), marked(seals), nil, api.OK, marked(seals)},
		{framed("a") + framed("b"), marked(2) + marked(seals+1), []string{"a", "b"}, api.OK, marked(2) + marked(seals+1)},
		{framed("a"), marked(seals + 2), nil, api.ErrCorrupt, marked(seals + 2)},
		{framed("a"), "123456789012" + marked(1), []string{"a"}, api.OK, "123456789012" + marked(1)},
		{framed("a"), marked(1) + marked(5)[:8] + "abcd", []string{"a"}, api.OK, marked(1) + marked(5)[:8] + "abcd"},
		{framed("a"), "x" + marked(1), []string{"a"}, api.OK, marked(seals + 1)},
		{framed("a"), marked(1) + marked(131073) + marked(seals-1) + marked(seals+131073), []string{"a"}, api.OK, marked(1) + marked(131073) + marked(seals-1) + marked(seals+131073)},
		{framed("a"), marked(131072), nil, api.ErrCorrupt, marked(131072)},
		{framed("a"), marked(1)[:11], []string{"a"}, api.OK, marked(seals + 1)},
		{"", marked(0), nil, api.OK, marked(0)},
		{"torn", "", nil, api.OK, marked(seals)},
	} {
		d := disk.New(10000)
		put(d, "w.000003.log", c.log)
		if c.ack != "" {
			put(d, "w.000003.ack", c.ack)
		}
		put(d, "w.000003.new", "left over")
		w, l, err := Open(d, "w")
		var got []string
		for _, r := range l {
			got = append(got, r.Data)
		}
		ack, _ := d.Read("w.000003.ack")
		if err != c.err || !slices.Equal(got, c.want) || ack != c.after || d.Safe("w.000003.ack") != len(c.after) {
			t.Errorf("%q %x: %v %d %x", c.log, c.ack, got, err, ack)
		}
		if err == api.OK && w.Number() != 4 {
			t.Error(w.Number())
		}
		if c.after != c.ack && slices.Contains(d.Names(), "w.000003.new") {
			t.Error("left over")
		}
	}
	d := disk.New(10000)
	put(d, "w.000007.ack", marked(0))
	if w, l := open(t, d); w.Number() != 8 || l != nil {
		t.Error("a segment that has an .ack file alone")
	}
	d = disk.New(10000)
	put(d, "w.000000.log", framed("a"))
	put(d, "w.000000.ack", "")
	for i := range api.MaxFiles - 2 {
		put(d, strconv.Itoa(i), "")
	}
	if _, l := open(t, d); len(l) != 1 {
		t.Error("MaxFiles files", l)
	}
	if s, _ := d.Read("w.000000.ack"); s != marked(seals+1) {
		t.Errorf("%x", s)
	}
	d.Delete("w.000000.ack")
	put(d, "one", "")
	if _, _, err := Open(d, "w"); err != api.ErrLong {
		t.Error("no room for the .ack file", err)
	}
	d = disk.New(20)
	put(d, "w.000000.log", framed("a"))
	if _, _, err := Open(d, "w"); err != api.ErrFull {
		t.Error("no room for the mark", err)
	}
}

// P6.2
func TestAppend(t *testing.T) {
	var none *Wal
	want(t, "nil", none.Append(""), api.ErrArg)
	want(t, "nil", none.Retire(1), api.ErrArg)
	if none.Rotate() != -1 || none.Number() != -1 || none.Least(5) != -1 {
		t.Error("a nil log")
	}
	d := disk.New(13 + 24)
	w, _ := open(t, d)
	want(t, "no room", w.Append("ab"), api.ErrFull)
	if d.Calls() != 0 {
		t.Error("a full disk was asked")
	}
	want(t, "room", w.Append("a"), api.OK)
	if d.Calls() != 4 || d.Free() != 12 {
		t.Error(d.Calls(), d.Free())
	}
	want(t, "too long", w.Append(strings.Repeat("x", crc.MaxBody+1)), api.ErrLong)
	want(t, "full", w.Append(strings.Repeat("x", crc.MaxBody)), api.ErrFull)

	d = disk.New(1000)
	for i := range api.MaxFiles - 1 {
		put(d, strconv.Itoa(i), "")
	}
	w, _ = open(t, d)
	want(t, "one file", w.Append("a"), api.ErrFull)
	d.Delete("0")
	want(t, "two files", w.Append("a"), api.OK)
	want(t, "no file more", w.Append("a"), api.OK)
	if w.Rotate() != 1 {
		t.Error(w.Number())
	}
	want(t, "two files more", w.Append("a"), api.ErrFull)

	d = disk.New(1000)
	w, _ = open(t, d)
	if w.Least(-3) != 0 || w.Least(5) != 5 || w.Least(4) != 5 || w.Number() != 5 || w.Rotate() != 5 {
		t.Error("Least")
	}
	want(t, "Append", w.Append("a"), api.OK)
	if w.Least(5) != 5 || w.Rotate() != 6 || w.Least(999999) != 999999 {
		t.Error("Least")
	}
	want(t, "the last segment", w.Append("b"), api.OK)
	if w.Rotate() != 1000000 || w.Append("c") != api.ErrLong {
		t.Error("behind the last segment")
	}
	if w.Least(math.MaxInt) != math.MaxInt || w.Append("c") != api.ErrLong {
		t.Error("a great number")
	}
	if _, l := open(t, d); !slices.Equal(l, []Rec{{5, "a"}, {999999, "b"}}) {
		t.Error(l)
	}
	d = disk.New(1000)
	w, _ = open(t, d)
	d.Arm(2)
	want(t, "off", w.Append("a"), api.ErrOff)
	d.Crash([]disk.Keep{{Bytes: 99, Sector: -1}})
	want(t, "broken", w.Append("a"), api.ErrOff)
	want(t, "broken", w.Retire(9), api.ErrOff)
	want(t, "too long, and broken", w.Append(strings.Repeat("x", crc.MaxBody+1)), api.ErrLong)
}

// P6.2
func TestGreat(t *testing.T) {
	d := disk.New(1 << 22)
	w, _ := open(t, d)
	s := strings.Repeat("x", 131060)
	for range 9 {
		want(t, "Append", w.Append(s), api.OK)
	}
	if w.Number() != 1 {
		t.Error(w.Number())
	}
	if f, _ := d.Read("w.000000.log"); len(f) != 8*131072 {
		t.Error(len(f))
	}
	last := disk.New(1 << 22)
	w, _ = open(t, last)
	w.Least(999999)
	for range 8 {
		want(t, "Append", w.Append(s), api.OK)
	}
	if w.Append(s) != api.ErrLong || w.Number() != 999999 {
		t.Error("behind the last segment", w.Number())
	}
	if _, l := open(t, d); len(l) != 9 || l[7].Segment != 0 || l[8].Segment != 1 {
		t.Error(len(l))
	}
}

// P6.3
func TestRetire(t *testing.T) {
	d := disk.New(10000)
	w, _ := open(t, d)
	for _, s := range []string{"a", "b", "c"} {
		w.Append(s)
		w.Rotate()
	}
	want(t, "none", w.Retire(0), api.OK)
	want(t, "two", w.Retire(2), api.OK)
	if !slices.Equal(d.Names(), []string{"w.000002.ack", "w.000002.log"}) {
		t.Error(d.Names())
	}
	w.Append("d")
	want(t, "not the one under way", w.Retire(99), api.OK)
	if !slices.Equal(d.Names(), []string{"w.000003.ack", "w.000003.log"}) {
		t.Error(d.Names())
	}
	w.Rotate()
	d.Arm(1)
	want(t, "off", w.Retire(9), api.ErrOff)
	d.Crash(nil)
	if !slices.Equal(d.Names(), []string{"w.000003.log"}) {
		t.Error("the .ack file goes first", d.Names())
	}
	want(t, "broken", w.Retire(9), api.ErrOff)
	if _, l := open(t, d); !slices.Equal(l, []Rec{{3, "d"}}) {
		t.Error("of retired ones perhaps some", l)
	}
}

func keeps(r *rand.Rand) []disk.Keep {
	l := make([]disk.Keep, 12)
	for i := range l {
		l[i] = disk.Keep{Bytes: r.Intn(60) - 10, Sector: r.Intn(6) - 2}
	}
	return l
}

func datas(l []Rec) []string {
	var s []string
	for _, r := range l {
		s = append(s, r.Data)
	}
	return s
}

// P6.4
func TestCrashes(t *testing.T) {
	r := rand.New(rand.NewSource(1))
	for range 4000 {
		d := disk.New(100000)
		var sure []string // in order; some at the beginning may be retired
		maybe := ""
		for round := range 4 {
			w, l, err := Open(d, "w")
			if err == api.ErrOff {
				d.Crash(keeps(r))
				continue
			}
			want(t, "Open", err, api.OK)
			got := datas(l)
			if maybe != "" && len(got) > 0 && got[len(got)-1] == maybe {
				sure = append(sure, maybe)
			}
			maybe = ""
			if !slices.Equal(got, sure) {
				t.Fatal(got, sure)
			}
			d.Arm(r.Intn(40))
			for i := range 30 {
				s := strings.Repeat(string(rune('a'+round)), r.Intn(50)) + strconv.Itoa(i)
				if err := w.Append(s); err == api.OK {
					sure = append(sure, s)
				} else {
					maybe = s
					break
				}
				if r.Intn(4) == 0 {
					w.Rotate()
				}
			}
			if maybe == "" {
				t.Fatal("not off")
			}
			d.Crash(keeps(r))
			if r.Intn(2) == 0 {
				d.Arm(r.Intn(5))
			}
		}
	}
}

// P6.4
func TestBursts(t *testing.T) {
	r := rand.New(rand.NewSource(2))
	corrupt := 0
	for range 4000 {
		d := disk.New(100000)
		w, _ := open(t, d)
		n := 1 + r.Intn(5)
		if r.Intn(2) == 0 {
			d.Arm(r.Intn(4 * n))
		}
		var sure []string
		for i := range n {
			s := strings.Repeat("x", r.Intn(70)) + strconv.Itoa(i)
			if w.Append(s) == api.OK {
				sure = append(sure, s)
			}
		}
		if !d.On() {
			d.Crash(keeps(r))
			_, l := open(t, d)
			sure = datas(l)
		}
		names := d.Names()
		if len(names) == 0 {
			continue
		}
		name := names[r.Intn(len(names))]
		if d.Safe(name) == 0 {
			continue
		}
		d.Rot(name, r.Intn(8*d.Safe(name)), r.Uint32()|1)
		_, l, err := Open(d, "w")
		if err == api.ErrCorrupt {
			corrupt++
			continue
		}
		want(t, "Open", err, api.OK)
		if !slices.Equal(datas(l), sure) {
			t.Fatal(datas(l), sure)
		}
	}
	if corrupt == 0 {
		t.Error("none was corrupt")
	}
}
