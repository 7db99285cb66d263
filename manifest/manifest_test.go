package manifest

import (
	"math/rand"
	"reflect"
	"slices"
	"strconv"
	"testing"

	"debenture/api"
	"debenture/codec"
	"debenture/crc"
	"debenture/disk"
	"debenture/edit"
	"debenture/wal"
)

func want(t *testing.T, what string, got, want api.Errno) {
	t.Helper()
	if got != want {
		t.Fatalf("%s: %d, want %d", what, got, want)
	}
}

func opened(t *testing.T, d *disk.Disk) *Manifest {
	t.Helper()
	m, err := Open(d)
	want(t, "Open", err, api.OK)
	return m
}

func put(d *disk.Disk, name, data string) {
	d.Delete(name)
	d.Append(name, data)
	d.Sync(name)
}

func pointer(g int) string {
	f, _ := crc.Frame(new(codec.Writer).Size(g).Bytes())
	return f
}

func adding(num int) edit.Edit {
	return edit.Edit{Log: -1, Next: num + 1, Seq: -1, Add: []edit.File{{Num: num, Level: 0, First: "a", Last: "b", Count: 1, Size: 1}}}
}

// P13.1
func TestOpen(t *testing.T) {
	for num, s := range map[int]string{0: "", -1: "", 1: "000001.tab", 999999: "999999.tab", 1000000: ""} {
		if Name(num) != s {
			t.Error(num, Name(num))
		}
	}
	if m, err := Open(nil); m != nil || err != api.ErrArg {
		t.Error("no disk")
	}
	d := disk.New(10000)
	for _, name := range []string{"maa.000000.log", "mzz.junk", "maa.x", "mab", "CURRENT.new", "other"} {
		put(d, name, "junk")
	}
	m := opened(t, d)
	if !reflect.DeepEqual(m.Version(), edit.Version{Next: 1}) {
		t.Error(m.Version())
	}
	if l := d.Names(); !slices.Equal(l, []string{"CURRENT", "maa.000000.ack", "maa.000000.log", "mab", "other"}) {
		t.Error(l)
	}
	if s, _ := d.Read("CURRENT"); s != pointer(0) || d.Safe("CURRENT") != len(s) {
		t.Errorf("%x", s)
	}
	_, l, _ := wal.Open(d, "maa")
	if s, _ := edit.Encode(edit.Edit{Log: -1, Next: 1, Seq: -1}); len(l) != 1 || l[0].Data != s {
		t.Error(l)
	}
	d.Arm(0)
	d.Sync("x")
	if m, err := Open(d); m != nil || err != api.ErrOff {
		t.Error("off")
	}
	if _, err := Open(disk.New(30)); err != api.ErrFull {
		t.Error("full", err)
	}
}

// P13.1
func TestCorrupt(t *testing.T) {
	first, _ := edit.Encode(edit.Edit{Log: -1, Next: 1, Seq: -1})
	wrong, _ := edit.Encode(edit.Edit{Log: -1, Next: 0, Seq: -1})
	for what, c := range map[string]struct {
		current string
		records []string
		err     api.Errno
	}{
		"good": {pointer(30), []string{first}, api.OK}, "empty": {"", []string{first}, api.ErrCorrupt}, "cut": {pointer(30)[:5], []string{first}, api.ErrCorrupt},
		"more": {pointer(30) + "x", []string{first}, api.ErrCorrupt}, "beyond": {pointer(676), []string{first}, api.ErrCorrupt}, "no records": {pointer(30), nil, api.ErrCorrupt},
		"no edit": {pointer(30), []string{first, "x"}, api.ErrCorrupt}, "not applied": {pointer(30), []string{first, wrong}, api.ErrCorrupt}, "elsewhere": {pointer(31), []string{first}, api.ErrCorrupt},
		"no size": {func() string { f, _ := crc.Frame("\x1e\x00"); return f }(), []string{first}, api.ErrCorrupt},
	} {
		d := disk.New(10000)
		w, _, _ := wal.Open(d, "mbe")
		for _, r := range c.records {
			w.Append(r)
		}
		put(d, "CURRENT", c.current)
		if m, err := Open(d); err != c.err || (m == nil) != (err != api.OK) {
			t.Error(what, err)
		}
	}
	d := disk.New(200)
	opened(t, d)
	d.Delete("maa.000000.ack")
	d.Append("fill", string(make([]byte, d.Free()-11)))
	if m, err := Open(d); m != nil || err != api.ErrFull {
		t.Error("no room for the mark that seals", err)
	}
	d = disk.New(10000)
	opened(t, d)
	d.Rot("maa.000000.log", 70, 1)
	if _, err := Open(d); err != api.ErrCorrupt {
		t.Error("a log that is corrupt", err)
	}
}

// P13.2
func TestLog(t *testing.T) {
	d := disk.New(10000)
	m := opened(t, d)
	want(t, "not applied", m.Log(edit.Edit{Log: -1, Next: -1, Seq: -1, Drop: []int{4}}), api.ErrArg)
	want(t, "not encoded", m.Log(edit.Edit{Log: -2, Next: -1, Seq: -1}), api.ErrArg)
	want(t, "not encoded", m.Log(edit.Edit{Log: -1, Next: -2, Seq: -1}), api.ErrArg)
	want(t, "Log", m.Log(adding(1)), api.OK)
	want(t, "Next below", m.Log(edit.Edit{Log: 3, Next: 0, Seq: 9}), api.OK)
	for i := 2; i < 5; i++ {
		if n, err := m.Number(); n != i || err != api.OK || m.Version().Next != i+1 {
			t.Error(n, err)
		}
	}
	if v := opened(t, d).Version(); v.Next != 2 || v.Log != 3 || v.Seq != 9 || len(v.Files) != 1 {
		t.Error(v)
	}
	m = opened(t, d)
	m.Number()
	m.Number()
	want(t, "Log", m.Log(edit.Edit{Log: -1, Next: -1, Seq: -1}), api.OK)
	if v := opened(t, d).Version(); v.Next != 4 {
		t.Error("the number is told by the next edit", v)
	}
	v := m.Version()
	v.Files[0].Num = 77
	if m.Version().Files[0].Num != 1 {
		t.Error("a version is new memory")
	}
	want(t, "Log", m.Log(edit.Edit{Log: -1, Next: 999998, Seq: -1}), api.OK)
	if n, err := m.Number(); n != 999998 || err != api.OK {
		t.Error(n, err)
	}
	for range 2 {
		if n, err := m.Number(); n != 0 || err != api.ErrLong || m.Version().Next != 999999 {
			t.Error(n, err)
		}
	}
	want(t, "Log", m.Log(edit.Edit{Log: -1, Next: -1, Seq: -1}), api.OK)
}

// P13.2
func TestBroken(t *testing.T) {
	d := disk.New(140)
	m := opened(t, d)
	d.Append("fill", string(make([]byte, d.Free()-20)))
	want(t, "full", m.Log(edit.Edit{Log: -1, Next: 9, Seq: -1}), api.ErrFull)
	want(t, "full", m.Roll(), api.ErrFull)
	if m.Version().Next != 1 {
		t.Error("changed")
	}
	d.Delete("fill")
	want(t, "full doesn't break", m.Log(edit.Edit{Log: -1, Next: 9, Seq: -1}), api.OK)
	d.Arm(1)
	want(t, "off", m.Log(edit.Edit{Log: -1, Next: 10, Seq: -1}), api.ErrOff)
	d.Crash(nil)
	want(t, "broken", m.Log(edit.Edit{Log: -5, Next: 11, Seq: -1}), api.ErrOff)
	want(t, "broken", m.Roll(), api.ErrOff)
	if l, err := m.Collect(); l != nil || err != api.ErrOff {
		t.Error(err)
	}
	if n, err := m.Number(); n != 9 || err != api.OK {
		t.Error(n, err)
	}
}

// P13.2: where the pointer has no room, the generation that was begun is taken back
func TestRollFull(t *testing.T) {
	for free := range 120 {
		d := disk.New(1000)
		m := opened(t, d)
		want(t, "Log", m.Log(adding(1)), api.OK)
		d.Append("fill", string(make([]byte, d.Free()-free)))
		names := d.Names()
		err := m.Roll()
		if err == api.ErrFull && !slices.Equal(d.Names(), names) {
			t.Fatal(free, d.Names())
		}
		if err == api.OK && len(opened(t, d).Orphans()) != 0 {
			t.Fatal(free)
		}
		if v := opened(t, d).Version(); len(v.Files) != 1 || err != api.OK && err != api.ErrFull {
			t.Fatal(v, err)
		}
	}
}

// P13.2, P13.3
func TestRoll(t *testing.T) {
	d := disk.New(100000)
	m := opened(t, d)
	for i := range 700 {
		put(d, logName((i+1)%676)+".000009.log", "junk")
		m.Number()
		want(t, "Roll", m.Roll(), api.OK)
		g := logName((i + 1) % 676)
		if l := d.Names(); !slices.Equal(l, []string{"CURRENT", g + ".000000.ack", g + ".000000.log"}) {
			t.Fatal(i, l)
		}
		if i%50 == 0 || i > 670 && i < 680 {
			m = opened(t, d)
		}
		if m.Version().Next != i+2 {
			t.Fatal(m.Version())
		}
	}
}

// P13.3
func TestOrphans(t *testing.T) {
	d := disk.New(10000)
	m := opened(t, d)
	m.Log(adding(5))
	for _, name := range []string{"mab.x", "maa.x", "mac.", "mz.x", "xab.x", "m1b.x", "ma1.x", "000001.tab", "mABx", "MAA.x", "maab.x", "CURRENT.new", "000005.tab", "000006.tab", "000000.tab", "00007.tab", "0000007.tab", "+00007.tab", "000007.tabx", "w.000000.log", "999999.tab"} {
		put(d, name, "")
	}
	l := []string{"000001.tab", "000006.tab", "999999.tab", "CURRENT.new", "mab.x", "mac."}
	if !slices.Equal(m.Orphans(), l) {
		t.Error(m.Orphans())
	}
	d.Arm(2)
	if got, err := m.Collect(); !slices.Equal(got, l[:2]) || err != api.ErrOff {
		t.Error(got, err)
	}
	d.Crash(nil)
	m = opened(t, d)
	if got, err := m.Collect(); !slices.Equal(got, l[2:]) || err != api.OK || m.Orphans() != nil {
		t.Error(got, err)
	}
	var none *Manifest
	if n, err := none.Number(); n != 0 || err != api.ErrArg || !reflect.DeepEqual(none.Version(), edit.Version{}) || none.Log(edit.Edit{}) != api.ErrArg || none.Roll() != api.ErrArg || none.Orphans() != nil {
		t.Error("a nil manifest")
	}
	if l, err := none.Collect(); l != nil || err != api.ErrArg {
		t.Error("a nil manifest")
	}
}

func keeps(r *rand.Rand) []disk.Keep {
	l := make([]disk.Keep, 20)
	for i := range l {
		l[i] = disk.Keep{Bytes: r.Intn(90) - 10, Sector: r.Intn(6) - 2}
	}
	return l
}

// P13.4
func TestCrashes(t *testing.T) {
	r := rand.New(rand.NewSource(1))
	for range 1500 {
		d := disk.New(1000000)
		d.Arm(r.Intn(60))
		var sure, maybe []edit.File
		num := 0
		for range 5 {
			m, err := Open(d)
			for err != api.OK {
				want(t, "Open", err, api.ErrOff)
				d.Crash(keeps(r))
				m, err = Open(d)
			}
			got := m.Version().Files
			if maybe != nil && slices.Equal(got, maybe) {
				sure = maybe
			}
			maybe = nil
			if !slices.Equal(got, sure) {
				t.Fatal(got, sure)
			}
			d.Arm(r.Intn(60))
			for d.On() {
				num++
				e := adding(num)
				if len(sure) > 3 {
					e.Drop = []int{sure[len(sure)-1].Num}
				}
				w, _ := edit.Apply(m.Version(), e)
				if m.Log(e) == api.OK {
					sure = w.Files
				} else {
					maybe = w.Files
				}
				switch r.Intn(4) {
				case 0:
					m.Roll()
				case 1:
					m.Collect()
				}
			}
			d.Crash(keeps(r))
		}
	}
}

// P13.4
func TestBursts(t *testing.T) {
	r := rand.New(rand.NewSource(2))
	corrupt := 0
	for range 1500 {
		d := disk.New(1000000)
		m := opened(t, d)
		for i := range 1 + r.Intn(5) {
			m.Log(adding(i + 1))
			if r.Intn(5) == 0 {
				m.Roll()
			}
		}
		v := m.Version()
		name := d.Names()[r.Intn(len(d.Names()))]
		d.Rot(name, r.Intn(8*d.Safe(name)), r.Uint32()|1)
		m, err := Open(d)
		if err == api.ErrCorrupt {
			corrupt++
			continue
		}
		want(t, "Open "+strconv.Itoa(int(err)), err, api.OK)
		if !reflect.DeepEqual(m.Version(), v) {
			t.Fatal(m.Version(), v)
		}
	}
	if corrupt == 0 {
		t.Error("none was corrupt")
	}
}
