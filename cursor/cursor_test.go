package cursor

import (
	"fmt"
	"math/rand"
	"slices"
	"strings"
	"testing"

	"debenture/api"
	"debenture/block"
	"debenture/table"
)

func inner(key string, seq int) string {
	s, ok := Pack(key, seq)
	if !ok {
		panic(key)
	}
	return s
}

func tableOf(l []block.Pair) string {
	b := table.NewBuilder(64)
	for _, p := range l {
		if b.Add(p.Key, p.Value) != api.OK {
			panic(p.Key)
		}
	}
	s, _ := b.Finish()
	return s
}

func cursorOf(l []block.Pair) *table.Cursor {
	t, _ := table.Open(tableOf(l), 1, nil)
	return t.Cursor()
}

func sorted(m map[string]string) []block.Pair {
	var l []block.Pair
	for k, v := range m {
		l = append(l, block.Pair{Key: k, Value: v})
	}
	slices.SortFunc(l, func(a, b block.Pair) int { return strings.Compare(a.Key, b.Key) })
	return l
}

// P14.1
func TestPack(t *testing.T) {
	if s := inner("ab", 1); s != "ab\x00\x3f\xff\xff\xff\xff\xff\xff\xff" {
		t.Errorf("%x", s)
	}
	if inner("a", 5) >= inner("a", 4) || inner("a", 0) >= inner("a\x01", 9) || inner("a", 0) >= inner("b", 1<<62) {
		t.Error("order")
	}
	long := strings.Repeat("k", 64)
	for _, seq := range []int{0, 1, 1 << 62} {
		for _, key := range []string{"a", "\xff", long} {
			if k, n, ok := Unpack(inner(key, seq)); k != key || n != seq || !ok {
				t.Error(key, seq, k, n)
			}
		}
		for _, key := range []string{"", long + "k", "a\x00", "\x00"} {
			if s, ok := Pack(key, seq); s != "" || ok {
				t.Error(key)
			}
		}
	}
	for _, seq := range []int{-1, 1<<62 + 1} {
		if s, ok := Pack("a", seq); s != "" || ok {
			t.Error(seq)
		}
	}
	tail := inner("a", 0)[1:]
	for _, s := range []string{"", "a", tail, tail[1:], "a" + tail[1:], "a\x00" + tail, "a\x00\x40\x00\x00\x00\x00\x00\x00\x01", "a\x00\xff\xff\xff\xff\xff\xff\xff\xff", long + "k" + tail, "a" + tail + "x"} {
		if k, n, ok := Unpack(s); k != "" || n != 0 || ok {
			t.Errorf("%x", s)
		}
	}
}

// P14.2, P14.4
func TestMerge(t *testing.T) {
	r := rand.New(rand.NewSource(1))
	for range 500 {
		var sources []Source
		all := map[string]string{}
		for i := range r.Intn(5) {
			own := map[string]string{}
			for range r.Intn(20) {
				own[fmt.Sprint(r.Intn(30))] = fmt.Sprint(i)
			}
			for k, v := range own {
				if _, is := all[k]; !is {
					all[k] = v
				}
			}
			if l := sorted(own); r.Intn(2) == 0 {
				sources = append(sources, Source{Kind: List, List: l})
			} else {
				sources = append(sources, Source{Kind: Table, Table: cursorOf(l)})
			}
			sources = append(sources, Source{Kind: r.Intn(9) - 9, List: []block.Pair{{Key: "1", Value: "x"}}}, Source{Kind: 3, List: []block.Pair{{Key: "1", Value: "x"}}}, Source{Kind: Table})
		}
		want := sorted(all)
		m := New(sources)
		if m.Valid() || m.Pair() != (block.Pair{}) {
			t.Fatal("it stands at none")
		}
		m.Next()
		var got []block.Pair
		for m.First(); m.Valid(); m.Next() {
			got = append(got, m.Pair())
		}
		if !slices.Equal(got, want) || m.Err() != api.OK {
			t.Fatal(got, want)
		}
		m.First()
		if len(want) > 0 && m.Pair() != want[0] {
			t.Fatal("First, again")
		}
		key := fmt.Sprint(r.Intn(30))
		got = nil
		for m.Seek(key); m.Valid(); m.Next() {
			got = append(got, m.Pair())
		}
		at := slices.IndexFunc(want, func(p block.Pair) bool { return p.Key >= key })
		if at < 0 {
			at = len(want)
		}
		if !slices.Equal(got, want[at:]) {
			t.Fatal(key, got, want)
		}
	}
	var none *Merge
	none.First()
	none.Seek("a")
	none.Next()
	if none.Valid() || none.Pair() != (block.Pair{}) || none.Err() != api.ErrArg {
		t.Error("a nil merge")
	}
}

// P14.2: what is handed in isn't kept
func TestKept(t *testing.T) {
	l := []block.Pair{{Key: "a", Value: "1"}}
	m := New([]Source{{Kind: List, List: l}})
	l[0].Key = "z"
	m.First()
	if m.Pair().Key != "a" {
		t.Error(m.Pair())
	}
}

// spoilt is a cursor of a table of some keys, of which the last block is spoilt.
func spoilt(t *testing.T, keys string) *table.Cursor {
	v := "P" + strings.Repeat("v", 64)
	var l []block.Pair
	for i := range len(keys) {
		l = append(l, block.Pair{Key: inner(keys[i:i+1], 1), Value: v})
	}
	s := tableOf(l)
	b := []byte(s)
	b[(len(keys)-1)*(13+65+8+12)+40] ^= 1
	k, err := table.Open(string(b), 1, nil)
	if err != api.OK || k.Verify() != api.ErrCorrupt {
		t.Fatal(err)
	}
	return k.Cursor()
}

// P14.2, P14.3
func TestSpoilt(t *testing.T) {
	m := New([]Source{{Kind: Table, Table: spoilt(t, "ac")}, {Kind: List, List: []block.Pair{{Key: inner("b", 1), Value: "P"}, {Key: inner("x", 1), Value: "P"}}}})
	m.First()
	if !m.Valid() || m.Err() != api.OK {
		t.Fatal("its first block is whole")
	}
	m.Next()
	if m.Valid() || m.Err() != api.ErrCorrupt || m.Pair() != (block.Pair{}) {
		t.Error("a block that isn't whole")
	}
	m.First()
	m.Seek("x")
	if m.Valid() || m.Err() != api.ErrCorrupt {
		t.Error("it stands at none then")
	}
	m = New([]Source{{Kind: List, List: []block.Pair{{Key: inner("a", 1), Value: "P"}}}, {Kind: Table, Table: spoilt(t, "c")}})
	for range 2 {
		m.First()
		if m.Valid() || m.Err() != api.ErrCorrupt {
			t.Error("the first block isn't whole")
		}
	}
	v := NewView(New([]Source{{Kind: Table, Table: spoilt(t, "ac")}}), 5)
	v.Seek("a")
	if !v.Valid() || v.Key() != "a" || v.Err() != api.OK {
		t.Error("what stands behind isn't passed yet")
	}
	v.Next()
	if v.Valid() || v.Key() != "" || v.Value() != "" || v.Err() != api.ErrCorrupt {
		t.Error("a block that isn't whole")
	}
}

// P14.3
func TestView(t *testing.T) {
	r := rand.New(rand.NewSource(2))
	for range 400 {
		pairs := map[string]string{}
		for range r.Intn(40) {
			v := "D"
			if r.Intn(3) > 0 {
				v = "P" + fmt.Sprint(r.Intn(100))
			}
			pairs[inner(string(rune('a'+r.Intn(6))), r.Intn(8))] = v
		}
		for seq := -1; seq < 9; seq++ {
			state := map[string]string{}
			for n := 0; n <= seq; n++ {
				for k := 'a'; k < 'g'; k++ {
					if v := pairs[inner(string(k), n)]; v == "D" {
						delete(state, string(k))
					} else if v != "" {
						state[string(k)] = v[1:]
					}
				}
			}
			for _, from := range []string{"", "a", "c", "c\x00", "d\x00\xff", "z"} {
				v := NewView(New([]Source{{Kind: Table, Table: cursorOf(sorted(pairs))}}), seq)
				if v.Valid() || v.Key() != "" {
					t.Fatal("it stands at none")
				}
				var got, want []block.Pair
				for v.Seek(from); v.Valid(); v.Next() {
					got = append(got, block.Pair{Key: v.Key(), Value: v.Value()})
				}
				for _, p := range sorted(state) {
					if p.Key >= from {
						want = append(want, p)
					}
				}
				if !slices.Equal(got, want) || v.Err() != api.OK {
					t.Fatalf("%d %q: %v, want %v, %d", seq, from, got, want, v.Err())
				}
			}
		}
	}
}

// P14.3
func TestWrong(t *testing.T) {
	good := []block.Pair{{Key: inner("a", 3), Value: "P3"}, {Key: inner("a", 2), Value: "P2"}, {Key: inner("b", 1), Value: "P"}}
	for _, c := range []struct {
		bad  block.Pair
		at   int // among the good ones
		seq  int
		want string // the keys that are seen
	}{
		{block.Pair{Key: "A", Value: "P"}, 0, 9, ""}, {block.Pair{Key: inner("a", 9), Value: ""}, 0, 5, ""}, {block.Pair{Key: inner("a", 4), Value: "DD"}, 0, 3, ""},
		{block.Pair{Key: inner("a", 1), Value: "x"}, 2, 9, "a"}, {block.Pair{Key: inner("c", 1), Value: "p"}, 3, 9, "ab"}, {block.Pair{Key: "z", Value: "P"}, 3, 9, "ab"},
	} {
		l := slices.Insert(slices.Clone(good), c.at, c.bad)
		v := NewView(New([]Source{{Kind: List, List: l}}), c.seq)
		got := ""
		for v.Seek(""); v.Valid(); v.Next() {
			got += v.Key()
			if v.Err() != api.OK {
				t.Error("too early", c)
			}
		}
		if got != c.want || v.Err() != api.ErrCorrupt {
			t.Error(c, got, v.Err())
		}
		v.Seek("b")
		if v.Valid() || v.Err() != api.ErrCorrupt {
			t.Error("it stands at none then")
		}
	}
	var none *View
	none.Seek("a")
	none.Next()
	if none.Valid() || none.Key() != "" || none.Value() != "" || none.Err() != api.ErrArg {
		t.Error("a nil view")
	}
	v := NewView(nil, 1)
	v.Seek("a")
	if v.Valid() || v.Err() != api.ErrArg {
		t.Error("a view of none")
	}
}
