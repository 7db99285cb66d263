package block

import (
	"fmt"
	"math"
	"math/rand"
	"slices"
	"strings"
	"testing"

	"debenture/api"
	"debenture/codec"
)

func build(t *testing.T, l []Pair) *Builder {
	t.Helper()
	b := &Builder{}
	for _, p := range l {
		if err := b.Add(p.Key, p.Value); err != api.OK {
			t.Fatal(p.Key, err)
		}
	}
	return b
}

func pairs(r *rand.Rand, n int) []Pair {
	seen := map[string]bool{}
	var l []Pair
	for range n {
		k := strings.Repeat("k", r.Intn(4)) + fmt.Sprint(r.Intn(10*n+1))
		if !seen[k] {
			seen[k] = true
			l = append(l, Pair{k, strings.Repeat("v", r.Intn(200))})
		}
	}
	slices.SortFunc(l, func(a, b Pair) int { return strings.Compare(a.Key, b.Key) })
	return l
}

// P9.1
func TestBuilder(t *testing.T) {
	b := build(t, []Pair{{"a", "1"}})
	if b.Bytes() != "\x00\x01\x01a1\x00\x00\x00\x00\x00\x00\x00\x01" || b.Size() != 13 || b.Len() != 1 || b.Last() != "a" {
		t.Errorf("%x", b.Bytes())
	}
	var z Builder
	if z.Bytes() != "\x00\x00\x00\x00" || z.Size() != 4 || z.Len() != 0 || z.Last() != "" {
		t.Error("an empty one")
	}
	b = build(t, []Pair{{"ab", "1"}, {"abc", ""}, {"b", "2"}})
	if b.Bytes() != "\x00\x02\x01ab1"+"\x02\x01\x00c"+"\x00\x01\x01b2"+"\x00\x00\x00\x00\x00\x00\x00\x01" {
		t.Errorf("%x", b.Bytes())
	}
	for _, p := range []Pair{{"", "v"}, {strings.Repeat("z", 81), ""}, {"c", strings.Repeat("v", 16001)}, {"b", ""}, {"ab", ""}} {
		if err := b.Add(p.Key, p.Value); err != api.ErrArg || b.Len() != 3 || b.Last() != "b" {
			t.Error(p.Key, err)
		}
	}
	if b.Add(strings.Repeat("y", 80), strings.Repeat("v", 16000)) != api.OK {
		t.Error("the greatest")
	}
	b = &Builder{}
	for i := range 4096 {
		if err := b.Add(fmt.Sprintf("%06d", i), ""); err != api.OK {
			t.Fatal(err)
		}
	}
	size := b.Size()
	if b.Add("1", "") != api.ErrLong || b.Add("", "") != api.ErrArg || b.Len() != 4096 || b.Size() != size || b.Last() != "004095" {
		t.Error("4096 pairs")
	}
	if k, err := Open(b.Bytes()); err != api.OK || k.Len() != 4096 {
		t.Error("4096 pairs", err)
	}
	var none *Builder
	if none.Add("a", "") != api.ErrArg || none.Len() != 0 || none.Size() != 0 || none.Last() != "" || none.Bytes() != "" {
		t.Error("a nil builder")
	}
}

// P9.2, P9.3
func TestOpen(t *testing.T) {
	r := rand.New(rand.NewSource(1))
	for i := range 400 {
		l := pairs(r, i)
		b := build(t, l)
		s := b.Bytes()
		if len(s) != b.Size() {
			t.Fatal("Size")
		}
		k, err := Open(s)
		if err != api.OK || k.Len() != len(l) || !slices.Equal(k.All(), l) {
			t.Fatal(i, err)
		}
		for j, p := range l {
			if q, ok := k.At(j); q != p || !ok {
				t.Fatal("At", j)
			}
			if v, ok := k.Get(p.Key); v != p.Value || !ok || k.Seek(p.Key) != j || k.Seek(p.Key+"\x00") != j+1 {
				t.Fatal("Get", p.Key)
			}
			if v, ok := k.Get(p.Key + "\x00"); v != "" || ok {
				t.Fatal("Get of none")
			}
		}
		for _, j := range []int{-1, len(l), math.MaxInt, math.MinInt} {
			if p, ok := k.At(j); p != (Pair{}) || ok {
				t.Fatal("At", j)
			}
		}
		if k.Seek("") != 0 || k.Seek("\xff") != len(l) {
			t.Fatal("Seek")
		}
	}
	var none *Block
	if _, ok := none.At(0); ok || none.Len() != 0 || none.Seek("a") != 0 || none.All() != nil {
		t.Error("a nil block")
	}
	if _, ok := none.Get("a"); ok {
		t.Error("a nil block")
	}
}

func raw(shared, more, size int, rest string) string {
	return new(codec.Writer).Size(shared).Size(more).Size(size).Raw(rest).Bytes()
}

// P9.2, P9.3
func TestForm(t *testing.T) {
	one := "\x00\x00\x00\x00\x00\x00\x00\x01"
	for _, s := range []string{
		"", "\x00\x00\x00", "\x00\x00\x00\x01", one,
		raw(0, 1, 1, "a1") + "\x00\x00\x00\x00",
		raw(0, 1, 1, "a1") + "\x00\x00\x00\x01\x00\x00\x00\x01",
		raw(0, 1, 1, "a1") + "\x00\x00\x00\x00" + one[:4] + "\x00\x00\x00\x02",
		raw(0, 1, 1, "a1") + raw(0, 2, 1, "ab1") + one,
		raw(0, 1, 1, "a1") + raw(2, 2, 1, "bc1") + one,
		raw(0, 1, 1, "a1") + raw(1, 0, 1, "1") + one,
		raw(0, 1, 1, "b1") + raw(0, 1, 1, "a1") + one,
		raw(1, 1, 1, "a1") + one,
		raw(0, 0, 1, "1") + one,
		raw(0, 81, 0, strings.Repeat("a", 81)) + one,
		raw(0, 1, 16001, "a"+strings.Repeat("a", 16001)) + one,
		raw(0, 1, 9, "a1") + one,
		"\x80\x00\x01\x01a1" + one,
		raw(0, 1, 1, "a1") + one + "\x00",
		strings.Repeat("\xff", 50),
	} {
		if b, err := Open(s); b != nil || err != api.ErrForm {
			t.Errorf("%x: %d", s, err)
		}
	}
	r := rand.New(rand.NewSource(2))
	for range 20000 {
		l := pairs(r, r.Intn(20))
		s := []byte(build(t, l).Bytes())
		s[r.Intn(len(s))] = byte(r.Intn(256))
		if b, err := Open(string(s)); err == api.OK {
			if build(t, b.All()).Bytes() != string(s) {
				t.Fatalf("%x", s)
			}
		}
	}
}

// P9.2: what is answered is new memory
func TestAll(t *testing.T) {
	b, _ := Open(build(t, []Pair{{"a", "1"}}).Bytes())
	b.All()[0].Key = "z"
	if v, ok := b.Get("a"); v != "1" || !ok {
		t.Error("changed")
	}
}
