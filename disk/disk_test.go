package disk

import (
	"math"
	"slices"
	"strconv"
	"strings"
	"testing"

	"debenture/api"
)

func want(t *testing.T, what string, got, want api.Errno) {
	t.Helper()
	if got != want {
		t.Errorf("%s: %d, want %d", what, got, want)
	}
}

func has(t *testing.T, d *Disk, name, data string, safe int) {
	t.Helper()
	if s, err := d.Read(name); s != data || err != api.OK || d.Safe(name) != safe {
		t.Errorf("%s: %q %d, safe %d; want %q, %d", name, s, err, d.Safe(name), data, safe)
	}
}

// P5.1
func TestNew(t *testing.T) {
	if New(-1) != nil || New(1<<24+1) != nil || New(1<<24) == nil || New(0) == nil {
		t.Error("New")
	}
	d := New(100)
	if !d.On() || d.Names() != nil || d.Used() != 0 || d.Free() != 100 || d.Written() != 0 || d.Calls() != 0 || d.Safe("a") != 0 {
		t.Error("an empty disk")
	}
	if s, err := d.Read("a"); s != "" || err != api.ErrNone {
		t.Error("Read of none")
	}
	d.Append("b", "12345")
	d.Append("a", "xy")
	d.Append("a", "z")
	d.Delete("b")
	if !slices.Equal(d.Names(), []string{"a"}) || d.Used() != 3 || d.Free() != 97 || d.Written() != 8 || d.Calls() != 4 {
		t.Error(d.Names(), d.Used(), d.Free(), d.Written(), d.Calls())
	}
	d.Append("B", "")
	d.Append("0", "")
	if !slices.Equal(d.Names(), []string{"0", "B", "a"}) {
		t.Error(d.Names())
	}
	var none *Disk
	want(t, "Append", none.Append("a", ""), api.ErrArg)
	want(t, "Sync", none.Sync("a"), api.ErrArg)
	want(t, "Rename", none.Rename("a", "b"), api.ErrArg)
	want(t, "Delete", none.Delete("a"), api.ErrArg)
	_, err := none.Read("a")
	want(t, "Read", err, api.ErrArg)
	none.Arm(1)
	none.Crash(nil)
	if none.Names() != nil || none.Safe("a") != 0 || none.Used() != 0 || none.Free() != 0 || none.Written() != 0 || none.Calls() != 0 || none.On() || none.Rot("a", 0, 1) {
		t.Error("a nil disk")
	}
}

// P5.2
func TestOperations(t *testing.T) {
	d := New(1 << 21)
	long := strings.Repeat("n", 24)
	want(t, "24 bytes", d.Append(long, "a"), api.OK)
	for _, name := range []string{"", long + "n"} {
		want(t, "Append", d.Append(name, "a"), api.ErrArg)
		want(t, "Sync", d.Sync(name), api.ErrArg)
		want(t, "Delete", d.Delete(name), api.ErrArg)
		want(t, "Rename from", d.Rename(name, "a"), api.ErrArg)
		want(t, "Rename to", d.Rename(long, name), api.ErrArg)
	}
	want(t, "Sync", d.Sync("a"), api.ErrNone)
	want(t, "Delete", d.Delete("a"), api.ErrNone)
	want(t, "Rename", d.Rename("a", "a"), api.ErrNone)
	want(t, "Append", d.Append("a", "xy"), api.OK)
	want(t, "Sync", d.Sync("a"), api.OK)
	want(t, "Append", d.Append("a", "z"), api.OK)
	has(t, d, "a", "xyz", 2)
	want(t, "Rename", d.Rename("a", "a"), api.OK)
	has(t, d, "a", "xyz", 2)
	want(t, "Rename", d.Rename("a", long), api.OK)
	has(t, d, long, "xyz", 2)
	if !slices.Equal(d.Names(), []string{long}) || d.Used() != 3 {
		t.Error(d.Names(), d.Used())
	}
	d.Delete(long)
	want(t, "the greatest file", d.Append("a", strings.Repeat("x", api.MaxFile)), api.OK)
	want(t, "a byte more", d.Append("a", "x"), api.ErrLong)
	want(t, "no byte more", d.Append("a", ""), api.OK)
	want(t, "the full disk", d.Append("b", strings.Repeat("x", api.MaxFile)), api.OK)
	want(t, "too long ahead of full", d.Append("b", "x"), api.ErrLong)
	want(t, "full", d.Append("c", "x"), api.ErrFull)
	if len(d.Names()) != 2 || d.Written() != 1+2+1+2<<20 {
		t.Error("a refused one changed something", d.Written())
	}
	want(t, "an empty one", d.Append("c", ""), api.OK)
	d = New(10)
	for i := range api.MaxFiles {
		want(t, "a file", d.Append(strconv.Itoa(i), ""), api.OK)
	}
	want(t, "one too many", d.Append("x", strings.Repeat("x", 11)), api.ErrLong)
	want(t, "of those there", d.Append("5", "x"), api.OK)
}

// P5.2
func TestArm(t *testing.T) {
	for n := -1; n < 5; n++ {
		d := New(100)
		d.Append("a", "1")
		d.Arm(n)
		errs := []api.Errno{d.Append("a", "2"), d.Append("", "2"), d.Rename("a", "b"), d.Sync("b"), d.Delete("b")}
		plain := []api.Errno{api.OK, api.ErrArg, api.OK, api.OK, api.OK}
		for i, err := range errs {
			if i < n {
				want(t, "ahead", err, plain[i])
			} else {
				want(t, "behind", err, api.ErrOff)
			}
		}
		if d.On() || d.Calls() != 1+max(n, 0)+1 {
			t.Error(n, d.Calls())
		}
		if _, err := d.Read("a"); err != api.ErrOff {
			t.Error("Read of a disk that is off")
		}
		if n == 4 && !slices.Equal(d.Names(), []string{"b"}) {
			t.Error("what goes off by it isn't done", d.Names())
		}
		d.Crash(nil)
		if !d.On() {
			t.Error("off behind a crash")
		}
		for range 9 {
			want(t, "not armed any more", d.Append("c", ""), api.OK)
		}
	}
	d := New(10)
	d.Arm(0)
	d.Arm(2)
	want(t, "armed again", d.Append("a", ""), api.OK)
}

// P5.3
func TestCrash(t *testing.T) {
	for _, c := range []struct {
		keep []Keep
		want string
	}{{nil, "xy"}, {[]Keep{{1, -1}}, "xyz"}, {[]Keep{{1, 0}}, "xy\xdf"}, {[]Keep{{9, 1}}, "xyz"}, {[]Keep{{-1, 0}}, "xy"}, {[]Keep{{math.MaxInt, math.MaxInt}}, "xyz"}, {[]Keep{{math.MinInt, math.MinInt}}, "xy"}} {
		d := New(100)
		d.Append("a", "xy")
		d.Sync("a")
		d.Append("a", "z")
		d.Crash(c.keep)
		has(t, d, "a", c.want, len(c.want))
		if d.Used() != len(c.want) || d.Written() != 3 {
			t.Error(d.Used())
		}
	}
	d := New(1000)
	d.Append("c", strings.Repeat("s", 70))
	d.Sync("c")
	d.Append("c", strings.Repeat("u", 100))
	d.Append("b", "lost")
	d.Append("a", "kept")
	d.Crash([]Keep{{2, 9}, {0, 0}, {90, 1}, {5, 5}})
	has(t, d, "a", "ke", 2)
	has(t, d, "b", "", 0)
	has(t, d, "c", strings.Repeat("s", 70)+strings.Repeat(string([]byte{'u' ^ 0xa5}), 58)+strings.Repeat("u", 32), 160)
	if d.Used() != 162 || d.Free() != 838 {
		t.Error(d.Used())
	}
}

// P5.4
func TestRot(t *testing.T) {
	d := New(100)
	d.Append("a", "\x00\x00")
	d.Sync("a")
	d.Append("a", "\x00")
	for _, c := range []struct {
		at   int
		bits uint32
		want string
		was  bool
	}{
		{0, 1, "\x01\x00\x00", true}, {0, 1, "\x00\x00\x00", true}, {7, 3, "\x80\x01\x00", true}, {7, 3, "\x00\x00\x00", true},
		{15, 0xffffffff, "\x00\x80\x00", true}, {15, 1, "\x00\x00\x00", true}, {16, 0xffffffff, "\x00\x00\x00", false}, {15, 2, "\x00\x00\x00", false},
		{-1, 0xffffffff, "\x00\x00\x00", false}, {0, 0, "\x00\x00\x00", false}, {math.MaxInt, 0xffffffff, "\x00\x00\x00", false}, {math.MinInt, 0xffffffff, "\x00\x00\x00", false},
		{0, 1 << 31, "\x00\x00\x00", false}, {0, 0x8001, "\x01\x80\x00", true},
	} {
		if d.Rot("a", c.at, c.bits) != c.was {
			t.Error(c)
		}
		has(t, d, "a", c.want, 2)
	}
	if d.Rot("b", 0, 1) {
		t.Error("no file")
	}
}
