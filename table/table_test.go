package table

import (
	"fmt"
	"math/rand"
	"slices"
	"strings"
	"testing"

	"debenture/api"
	"debenture/block"
	"debenture/bloom"
	"debenture/cache"
	"debenture/codec"
	"debenture/crc"
)

func framing(s string) string {
	f, _ := crc.Frame(s)
	return f
}

func random(r *rand.Rand, n int) []block.Pair {
	seen := map[string]bool{}
	var l []block.Pair
	for range n {
		k := fmt.Sprint(r.Intn(3*n + 1))
		if r.Intn(2) == 0 {
			k += "\x00" + fmt.Sprint(r.Intn(9))
		}
		if !seen[k] {
			seen[k] = true
			l = append(l, block.Pair{Key: k, Value: strings.Repeat("v", r.Intn(60))})
		}
	}
	slices.SortFunc(l, func(a, b block.Pair) int { return strings.Compare(a.Key, b.Key) })
	return l
}

func build(t *testing.T, size int, l []block.Pair) (string, Meta) {
	t.Helper()
	b := NewBuilder(size)
	for _, p := range l {
		if err := b.Add(p.Key, p.Value); err != api.OK {
			t.Fatal(p.Key, err)
		}
	}
	return b.Finish()
}

func end(filter, index, count int) string {
	return framing(new(codec.Writer).Fixed8(uint64(filter)).Fixed8(uint64(index)).Fixed8(uint64(count)).Bytes())
}

func fromBlocks(count int, filter string, blocks ...[]block.Pair) string {
	var index block.Builder
	s := ""
	for _, l := range blocks {
		var b block.Builder
		for _, p := range l {
			b.Add(p.Key, p.Value)
		}
		f := framing(b.Bytes())
		index.Add(b.Last(), new(codec.Writer).Size(len(s)).Size(len(f)).Bytes())
		s += f
	}
	f := framing(filter)
	return s + f + framing(index.Bytes()) + end(len(s), len(s)+len(f), count)
}

// P11.1
func TestBytes(t *testing.T) {
	s, m := build(t, 64, []block.Pair{{Key: "a", Value: "1"}})
	if s != fromBlocks(1, bloom.Make([]string{"a"}), []block.Pair{{Key: "a", Value: "1"}}) || m != (Meta{"a", "a", 1, len(s)}) {
		t.Errorf("%x %v", s, m)
	}
	s, m = build(t, 64, nil)
	if s != fromBlocks(0, bloom.Make(nil)) || m != (Meta{Size: 72}) || len(s) != 72 {
		t.Errorf("%x %v", s, m)
	}
	v := strings.Repeat("v", 64)
	var b Builder = *NewBuilder(0)
	if b.Size() != 0 || b.Add("a\x00x", v) != api.OK || b.Size() != 64+3+3+8+12 || b.Add("a\x00y", "1") != api.OK || b.Size() != 64+3+3+8+12+(3+3+1+8+12) {
		t.Error(b.Size())
	}
	want := fromBlocks(2, bloom.Make([]string{"a", "a"}), []block.Pair{{Key: "a\x00x", Value: v}}, []block.Pair{{Key: "a\x00y", Value: "1"}})
	for range 2 {
		if s, m := b.Finish(); s != want || m != (Meta{"a\x00x", "a\x00y", 2, len(s)}) {
			t.Errorf("%x", s)
		}
	}
	if b.Add("a\x00y", "") != api.ErrArg || b.Add("a", "") != api.ErrArg || b.Add("", "") != api.ErrArg || b.Add(strings.Repeat("z", 81), "") != api.ErrArg || b.Add("z", strings.Repeat("v", 16001)) != api.ErrArg {
		t.Error("ErrArg")
	}
	if b.Add("b", "2") != api.OK {
		t.Error("it has all its pairs still")
	}
	s, m = b.Finish()
	if k, err := Open(s, 1, nil); err != api.OK || k.Count() != 3 || m.Count != 3 || m.Last != "b" || k.Verify() != api.OK {
		t.Error(m)
	}
	var none *Builder
	if s, m := none.Finish(); s != "" || m != (Meta{}) || none.Add("a", "") != api.ErrArg || none.Size() != 0 {
		t.Error("a nil builder")
	}
}

// P11.1
func TestSizes(t *testing.T) {
	for _, c := range [][2]int{{-5, 64}, {63, 64}, {64, 64}, {500, 500}, {16384, 16384}, {1 << 40, 16384}} {
		b := NewBuilder(c[0])
		var one block.Builder
		for i := 0; one.Size() < c[1]; i++ {
			k := fmt.Sprintf("%06d", i)
			one.Add(k, "value")
			b.Add(k, "value")
			if b.Size() != one.Size()+12 {
				t.Fatal(c, b.Size())
			}
		}
		b.Add("z", "")
		if b.Size() != one.Size()+12+8+3+1+12 {
			t.Error(c, "another block", b.Size(), one.Size())
		}
	}
	for _, c := range []struct {
		size int
		l    []block.Pair
	}{{64, []block.Pair{{Key: "a", Value: strings.Repeat("v", 52)}}}, {1 << 40, []block.Pair{{Key: "a", Value: strings.Repeat("v", 16000)}, {Key: "b", Value: strings.Repeat("v", 366)}}}} {
		b := NewBuilder(c.size)
		for _, p := range c.l {
			b.Add(p.Key, p.Value)
		}
		size, last := b.Size(), c.l[len(c.l)-1].Key
		if b.Add(last, "") != api.ErrArg || b.Add("z", "") != api.OK || b.Size() != size+3+1+8+12 || size != min(c.size, 16384)+12 {
			t.Error("it has just the builder's size", size, b.Size())
		}
	}
	b := NewBuilder(64)
	v := strings.Repeat("v", 60)
	for i := range 4096 {
		if err := b.Add(fmt.Sprintf("%04d", i), v); err != api.OK {
			t.Fatal(i, err)
		}
	}
	size := b.Size()
	if b.Add("9", v) != api.ErrLong || b.Add("1", v) != api.ErrArg || b.Add("", v) != api.ErrArg || b.Size() != size {
		t.Error("4096 blocks")
	}
	s, m := b.Finish()
	if k, err := Open(s, 1, nil); m.Count != 4096 || err != api.OK || k.Verify() != api.OK {
		t.Error("4096 blocks", m, err)
	}
}

// P11.2, P11.3, P11.4
func TestThere(t *testing.T) {
	r := rand.New(rand.NewSource(1))
	for i := range 200 {
		l := random(r, i)
		s, m := build(t, 64+r.Intn(300), l)
		for _, blocks := range []*Blocks{nil, cache.New[Place, *block.Block](2)} {
			k, err := Open(s, 7, blocks)
			if err != api.OK || k.Count() != len(l) || m.Count != len(l) || k.Verify() != api.OK {
				t.Fatal(i, err)
			}
			compare(t, k, l)
		}
	}
}

func compare(t *testing.T, k *Table, l []block.Pair) {
	t.Helper()
	c := k.Cursor()
	if c.Valid() || c.Pair() != (block.Pair{}) || c.Err() != api.OK {
		t.Fatal("at none at first")
	}
	c.Next()
	if c.Valid() {
		t.Fatal("from none at none")
	}
	c.First()
	for i, p := range l {
		if v, ok, err := k.Get(p.Key); v != p.Value || !ok || err != api.OK || !k.May(p.Key) {
			t.Fatal("Get", p.Key)
		}
		if v, ok, err := k.Get(p.Key + "\x00"); v != "" || ok || err != api.OK {
			t.Fatal("Get of none", p.Key)
		}
		if !c.Valid() || c.Pair() != p {
			t.Fatal("Cursor", p.Key, c.Pair())
		}
		d := k.Cursor()
		d.Seek(p.Key)
		if d.Pair() != p {
			t.Fatal("Seek", p.Key)
		}
		d.Seek(p.Key + "\x00")
		if i+1 < len(l) && d.Pair() != l[i+1] || i+1 == len(l) && d.Valid() {
			t.Fatal("Seek behind", p.Key)
		}
		c.Next()
	}
	if c.Valid() || c.Err() != api.OK {
		t.Fatal("at the end")
	}
	c.Seek("")
	if c.Valid() != (len(l) > 0) {
		t.Fatal("Seek")
	}
}

// P11.2
func TestBlocks(t *testing.T) {
	v := strings.Repeat("v", 64)
	s, _ := build(t, 64, []block.Pair{{Key: "a", Value: v}, {Key: "b", Value: v}})
	blocks := cache.New[Place, *block.Block](9)
	k, _ := Open(s, 5, blocks)
	if blocks.Len() != 0 {
		t.Error("its blocks aren't looked at yet")
	}
	k.Get("b")
	k.Get("b")
	if l := blocks.Keys(); !slices.Equal(l, []Place{{5, 3 + 1 + 64 + 8 + 12}}) {
		t.Error(l)
	}
	if h, m := blocks.Hits(); h != 1 || m != 1 {
		t.Error(h, m)
	}
	other, _ := build(t, 64, []block.Pair{{Key: "c", Value: v}, {Key: "d", Value: v}})
	k, _ = Open(other, 5, blocks)
	if w, ok, err := k.Get("d"); w != v || !ok || err != api.OK {
		t.Error("a block that is another table's")
	}
}

// P11.2
func TestForm(t *testing.T) {
	a, b := []block.Pair{{Key: "a", Value: "1"}, {Key: "b", Value: "2"}}, []block.Pair{{Key: "c", Value: "3"}}
	filter := bloom.Make([]string{"a", "b", "c"})
	good := fromBlocks(3, filter, a, b)
	if k, err := Open(good, 1, nil); err != api.OK || k.Verify() != api.OK {
		t.Error(err)
	}
	f := framing(filter)
	blockA, blockB := framing("\x00\x01\x01a1"+"\x00\x01\x01b2"+"\x00\x00\x00\x00\x00\x00\x00\x01"), ""
	index := func(l ...int) string {
		var x block.Builder
		for i := 0; i < len(l); i += 2 {
			x.Add(string(rune('b'+i)), new(codec.Writer).Size(l[i]).Size(l[i+1]).Bytes())
		}
		return framing(x.Bytes())
	}
	n := len(blockA)
	for what, s := range map[string]string{
		"empty":            "",
		"no end":           good[:len(good)-1],
		"more behind":      good + "x",
		"end of 16":        f + index() + framing("1234567812345678"),
		"end of 32":        f + index() + framing("12345678123456781234567812345678"),
		"a shorter end":    f + index() + framing(new(codec.Writer).Fixed8(0).Fixed8(uint64(len(f))).Bytes()) + "12345678",
		"filter elsewhere": f + index() + end(1, len(f), 0),
		"index elsewhere":  f + index() + end(0, len(f)+1, 0),
		"index at the end": f + index() + end(0, len(f)+16, 0),
		"beyond":           f + index() + end(-1, len(f), 0),
		"beyond both":      f + index() + end(-2, -1, 0),
		"gap":              f + "x" + index() + end(0, len(f)+1, 0),
		"filter bad":       f[:len(f)-1] + "x" + index() + end(0, len(f), 0),
		"index bad":        f + index()[:15] + "x" + end(0, len(f), 0),
		"no index":         f + framing("x") + end(0, len(f), 0),
		"many pairs":       f + index() + end(0, len(f), 73),
		"far too many":     f + index() + end(0, len(f), -1),
		"block left out":   blockA + f + index() + end(n, n+len(f), 2),
		"too short":        blockA + f + index(0, n-1) + end(n, n+len(f), 2),
		"too long":         blockA + f + index(0, n+1) + end(n, n+len(f), 2),
		"not from 0":       blockA + f + index(1, n-1) + end(n, n+len(f), 2),
		"below 12":         blockA + f + index(0, n-11, n-11, 11) + end(n, n+len(f), 2),
		"overlapping":      blockA + f + index(0, n, 0, n) + end(n, n+len(f), 2),
		"place cut":        blockA + blockB + f + framing("\x00\x01\x01b\x00\x00\x00\x00\x00\x00\x00\x00\x01") + end(n, n+len(f), 2),
	} {
		if k, err := Open(s, 1, nil); k != nil || err != api.ErrCorrupt {
			t.Error(what, err)
		}
	}
	if _, err := Open(f+index()+end(0, len(f), 72), 1, nil); err != api.OK {
		t.Error("as many pairs as bytes", err)
	}
	for what, s := range map[string]string{
		"fewer":            fromBlocks(4, filter, a, b),
		"more":             fromBlocks(2, filter, a, b),
		"filter lacks one": fromBlocks(3, bloom.Make([]string{"a", "c"}), a, b),
		"not above":        fromBlocks(4, filter, a, []block.Pair{{Key: "b", Value: "x"}, {Key: "c", Value: "3"}}),
		"no block":         framing("12345678901") + f + index(0, 23) + end(23, 23+len(f), 2),
		"another last key": framing("\x00\x01\x01a1\x00\x00\x00\x00\x00\x00\x00\x01") + f + index(0, 25) + end(25, 25+len(f), 1),
		"twelve bytes":     "123456789012" + f + index(0, 12) + end(12, 12+len(f), 0),
		"an empty block":   framing("\x00\x00\x00\x00") + f + index(0, 16) + end(16, 16+len(f), 0),
		"a frame and more": framing("\x00\x01\x01b1\x00\x00\x00\x00\x00\x00\x00\x01") + "x" + f + index(0, 26) + end(26, 26+len(f), 1),
	} {
		k, err := Open(s, 1, nil)
		if err != api.OK || k.Verify() != api.ErrCorrupt {
			t.Error(what, err)
		}
	}
	k, err := Open(framing("\x00\x01\x01a1\x00\x00\x00\x00\x00\x00\x00\x01")+f+index(0, 25)+end(25, 25+len(f), 1), 1, nil)
	if _, ok, e := k.Get("a"); err != api.OK || ok || e != api.ErrCorrupt {
		t.Error("another last key", e)
	}
	c := k.Cursor()
	c.Seek("a")
	if c.Valid() || c.Err() != api.ErrCorrupt || c.Pair() != (block.Pair{}) {
		t.Error("a cursor")
	}
	c.First()
	c.Next()
	if c.Valid() || c.Err() != api.ErrCorrupt {
		t.Error("it stands at none from then on")
	}
}

// P11.2, P11.3
func TestNil(t *testing.T) {
	var k *Table
	if v, ok, err := k.Get("a"); v != "" || ok || err != api.ErrArg || k.Count() != 0 || k.May("a") || k.Verify() != api.ErrArg {
		t.Error("a nil table")
	}
	c := k.Cursor()
	c.First()
	c.Seek("a")
	c.Next()
	if c != nil || c.Valid() || c.Pair() != (block.Pair{}) || c.Err() != api.ErrArg {
		t.Error("a nil cursor")
	}
}

// P11.4
func TestBursts(t *testing.T) {
	r := rand.New(rand.NewSource(2))
	told := 0
	for range 3000 {
		l := random(r, 1+r.Intn(30))
		s, _ := build(t, 64, l)
		b := []byte(s)
		at, bits := r.Intn(8*len(b)), r.Uint32()|1
		for i := range 32 {
			if k := at + i; bits>>i&1 == 1 && k < 8*len(b) {
				b[k/8] ^= 1 << (k % 8)
			}
		}
		k, err := Open(string(b), 1, nil)
		if err != api.OK {
			told++
			continue
		}
		if k.Verify() != api.ErrCorrupt {
			t.Fatal("Verify")
		}
		for _, p := range l {
			if v, ok, err := k.Get(p.Key); err == api.OK && (v != p.Value || !ok) {
				t.Fatal("Get", p.Key, v)
			}
		}
		c, n := k.Cursor(), 0
		for c.First(); c.Valid(); c.Next() {
			if c.Pair() != l[n] {
				t.Fatal("Cursor")
			}
			n++
		}
		if c.Err() != api.ErrCorrupt {
			t.Fatal("a cursor that goes through all")
		}
	}
	if told == 0 {
		t.Error("Open never told")
	}
}
