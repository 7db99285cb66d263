package edit

import (
	"fmt"
	"math"
	"math/rand"
	"reflect"
	"strings"
	"testing"

	"debenture/api"
	"debenture/codec"
)

func file(num, level int, first, last string) File {
	return File{num, level, first, last, 1, 1}
}

// P12.1
func TestBytes(t *testing.T) {
	e := Edit{5, -1, 1 << 62, []int{3, 0}, []File{{7, 2, strings.Repeat("a", 80), strings.Repeat("z", 80), 300, 1 << 20}, {}}}
	s, err := Encode(e)
	want := new(codec.Writer).Signed(5).Signed(-1).Signed(1 << 62).Size(2).Size(3).Size(0).Size(2).
		Size(7).Size(2).Text(strings.Repeat("a", 80)).Text(strings.Repeat("z", 80)).Size(300).Size(1 << 20).
		Size(0).Size(0).Text("").Text("").Size(0).Size(0).Bytes()
	if err != api.OK || s != want {
		t.Errorf("%x %d", s, err)
	}
	if d, err := Decode(s); err != api.OK || !reflect.DeepEqual(d, e) {
		t.Error(d, err)
	}
	for i := range len(s) {
		if d, err := Decode(s[:i]); err != api.ErrForm || !reflect.DeepEqual(d, Edit{}) {
			t.Error("cut at", i)
		}
	}
	if _, err := Decode(s + "\x00"); err != api.ErrForm {
		t.Error("more")
	}
	long := strings.Repeat("k", 81)
	for _, e := range []Edit{{Log: -2}, {Next: -2}, {Seq: -2}, {Seq: math.MinInt}, {Drop: []int{-1}}, {Drop: make([]int, 101)}, {Add: make([]File, 101)}, {Add: []File{{Num: -1}}}, {Add: []File{{Level: -1}}}, {Add: []File{{Count: -1}}}, {Add: []File{{Size: -1}}}, {Add: []File{{First: long}}}, {Add: []File{{Last: long}}}} {
		if s, err := Encode(e); s != "" || err != api.ErrArg {
			t.Error(e, err)
		}
	}
	if s, err := Encode(Edit{Drop: make([]int, 100), Add: make([]File, 100)}); err != api.OK {
		t.Error(err)
	} else if _, err := Decode(s); err != api.OK {
		t.Error(err)
	}
	w := func() *codec.Writer { return new(codec.Writer).Signed(0).Signed(0).Signed(0) }
	for _, w := range []*codec.Writer{
		new(codec.Writer).Signed(-2).Signed(0).Signed(0).Size(0).Size(0),
		w().Size(101).Raw(strings.Repeat("\x00", 101)).Size(0), w().Size(0).Size(101).Raw(strings.Repeat("\x00", 606)),
		w().Size(0).Size(1).Size(0).Size(0).Text(long).Text("").Size(0).Size(0),
		w().Size(math.MaxInt).Size(0), w().Size(0).Raw("\x80\x00"), w().Size(0).Size(1),
	} {
		if e, err := Decode(w.Bytes()); err != api.ErrForm || !reflect.DeepEqual(e, Edit{}) {
			t.Errorf("%x: %d", w.Bytes(), err)
		}
	}
}

// P12.2
func TestRight(t *testing.T) {
	good := func() Version {
		return Version{1, 10, 1, []File{file(5, 0, "a", "m"), file(3, 0, "b", "z"), file(4, 1, "a", "c"), file(9, 1, "d", "d"), file(1, 4, "a", "z")}}
	}
	if !Right(good()) || !Right(Version{}) || !Right(Version{999999, 999999, 1 << 62, []File{file(999998, 0, "a", "a")}}) {
		t.Error("right ones")
	}
	for i, f := range []func(*Version){
		func(v *Version) { v.Log = -1 }, func(v *Version) { v.Log = 1000000 }, func(v *Version) { v.Next = 1000000 }, func(v *Version) { v.Seq = 1<<62 + 1 }, func(v *Version) { v.Seq = -1 },
		func(v *Version) { v.Next = 9 }, func(v *Version) { v.Files[1].Num = 5 }, func(v *Version) { v.Files[2].Num = 1 }, func(v *Version) { v.Files[2].Last = "d" },
		func(v *Version) { v.Files[0], v.Files[1] = v.Files[1], v.Files[0] }, func(v *Version) { v.Files[2], v.Files[3] = v.Files[3], v.Files[2] }, func(v *Version) { v.Files[0], v.Files[4] = v.Files[4], v.Files[0] },
		func(v *Version) { v.Files[4].Num = 0 }, func(v *Version) { v.Files[4].Level = 5 }, func(v *Version) { v.Files[0].Level = -1 }, func(v *Version) { v.Files[4].First = "" }, func(v *Version) { v.Files[4].Last = "" },
		func(v *Version) { v.Files[4].Last = "A" }, func(v *Version) { v.Files[4].Count = 0 }, func(v *Version) { v.Files[4].Count = 1<<20 + 1 }, func(v *Version) { v.Files[4].Size = 0 }, func(v *Version) { v.Files[4].Size = 1<<20 + 1 },
		func(v *Version) { v.Files[4].Last = strings.Repeat("z", 81) },
	} {
		v := good()
		f(&v)
		if Right(v) {
			t.Error(i, v)
		}
		if w, err := Apply(v, Edit{-1, -1, -1, nil, nil}); err != api.ErrArg || !reflect.DeepEqual(w, Version{}) {
			t.Error(i, err)
		}
	}
	v := Version{Next: 500}
	for i := range 101 {
		if i == 100 && !Right(v) {
			t.Error("100 files")
		}
		v.Files = append([]File{file(i+1, 0, "a", "a")}, v.Files...)
	}
	if Right(v) {
		t.Error("101 files")
	}
}

// P12.2
func TestApply(t *testing.T) {
	v, err := Apply(Version{}, Edit{-1, 2, -1, nil, []File{file(1, 0, "a", "b")}})
	if err != api.OK || !reflect.DeepEqual(v, Version{0, 2, 0, []File{file(1, 0, "a", "b")}}) {
		t.Error(v, err)
	}
	v, err = Apply(v, Edit{3, 20, 7, nil, []File{file(2, 1, "m", "n"), file(3, 1, "a", "b"), file(4, 0, "a", "z"), file(5, 4, "a", "z")}})
	want := []File{file(4, 0, "a", "z"), file(1, 0, "a", "b"), file(3, 1, "a", "b"), file(2, 1, "m", "n"), file(5, 4, "a", "z")}
	if err != api.OK || !reflect.DeepEqual(v, Version{3, 20, 7, want}) {
		t.Error(v, err)
	}
	before := Whole(v)
	for _, e := range []Edit{
		{Log: 2, Next: -1, Seq: -1}, {Log: 0, Next: -1, Seq: -1}, {Log: -1, Next: 0, Seq: -1}, {Log: -1, Next: -1, Seq: 0}, {Log: -1, Next: 19, Seq: -1}, {Log: -1, Next: -1, Seq: 6}, {Log: -2, Next: -1, Seq: -1}, {-1, -1, -1, []int{6}, nil}, {-1, -1, -1, []int{1, 1}, nil},
		{-1, -1, -1, nil, []File{file(4, 0, "a", "a")}}, {-1, -1, -1, nil, []File{file(20, 0, "a", "a")}}, {-1, -1, -1, nil, []File{file(6, 1, "b", "c")}}, {-1, -1, -1, nil, []File{file(6, 5, "b", "c")}},
		{-1, -1, -1, nil, []File{file(6, 3, "c", "b")}}, {-1, -1, -1, nil, []File{{6, 3, "a", "b", 0, 1}}}, {Log: 1000000, Next: -1, Seq: -1}, {Log: -1, Next: -1, Seq: 1<<62 + 1}, {-1, -1, -1, nil, []File{file(6, 0, "b", "c"), file(6, 0, "b", "c")}},
	} {
		if w, err := Apply(v, e); err != api.ErrArg || !reflect.DeepEqual(w, Version{}) {
			t.Error(e, err)
		}
	}
	if !reflect.DeepEqual(Whole(v), before) {
		t.Error("the version was changed")
	}
	w, err := Apply(v, Edit{3, 20, 7, []int{2, 4}, []File{file(4, 1, "c", "d"), file(6, 1, "n", "n")}})
	if err != api.OK || !reflect.DeepEqual(w, Version{3, 20, 7, []File{file(1, 0, "a", "b"), file(3, 1, "a", "b"), file(4, 1, "c", "d"), file(6, 1, "n", "n"), file(5, 4, "a", "z")}}) {
		t.Error(w, err)
	}
	if x, err := Apply(Version{}, Whole(w)); err != api.OK || !reflect.DeepEqual(x, w) {
		t.Error("Whole", x, err)
	}
}

// P12.3
func TestLook(t *testing.T) {
	f := func(a, b string) File { return file(1, 0, a, b) }
	for _, c := range []struct {
		a, b File
		want bool
	}{{f("a", "c"), f("b", "d"), true}, {f("a", "b"), f("b", "d"), true}, {f("a", "a"), f("b", "d"), false}, {f("b", "c"), f("a", "z"), true}, {f("e", "f"), f("b", "d"), false}} {
		if Overlap(c.a, c.b) != c.want || Overlap(c.b, c.a) != c.want {
			t.Error(c)
		}
	}
	v := Version{0, 9, 0, []File{file(5, 0, "a", "m"), file(3, 0, "b", "z"), file(4, 1, "a", "c")}}
	if !reflect.DeepEqual(Level(v, 0), v.Files[:2]) || len(Level(v, 1)) != 1 || Level(v, 2) != nil || Level(v, -1) != nil {
		t.Error("Level")
	}
	if g, ok := Find(v, 3); g != v.Files[1] || !ok {
		t.Error("Find", g)
	}
	if g, ok := Find(v, 5); g != v.Files[0] || !ok {
		t.Error("Find", g)
	}
	if g, ok := Find(v, 1); g != (File{}) || ok {
		t.Error("Find of none")
	}
}

// P12.1: what is decoded is encoded as it was
func TestOneWay(t *testing.T) {
	r := rand.New(rand.NewSource(1))
	for range 50000 {
		e := Edit{r.Intn(9) - 1, r.Intn(9) - 1, r.Intn(9) - 1, nil, nil}
		for range r.Intn(3) {
			e.Drop = append(e.Drop, r.Intn(300))
			e.Add = append(e.Add, file(r.Intn(300), r.Intn(5), fmt.Sprint(r.Intn(9)), "z"))
		}
		s, _ := Encode(e)
		b := []byte(s)
		b[r.Intn(len(b))] ^= 1 << r.Intn(8)
		if d, err := Decode(string(b)); err == api.OK {
			if again, _ := Encode(d); again != string(b) {
				t.Fatalf("%x", b)
			}
		}
	}
}
