package skip

import (
	"maps"
	"math"
	"math/rand"
	"slices"
	"testing"
)

// P7.1, P7.2
func TestModel(t *testing.T) {
	r := rand.New(rand.NewSource(1))
	for _, span := range []int{3, 50, 3000} {
		m := New[int, string]()
		model := map[int]string{}
		for i := range 20000 {
			k := r.Intn(span)
			v := string(rune('a' + r.Intn(26)))
			old, had := model[k]
			switch r.Intn(5) {
			case 0, 1:
				if o, ok := m.Put(k, v); o != old || ok != had {
					t.Fatal("Put", k, o, ok)
				}
				model[k] = v
			case 2:
				if o, ok := m.Delete(k); o != old || ok != had {
					t.Fatal("Delete", k, o, ok)
				}
				delete(model, k)
			case 3:
				if o, ok := m.Get(k); o != old || ok != had {
					t.Fatal("Get", k, o, ok)
				}
			}
			if i%2000 == 1999 {
				m.Clear()
				clear(model)
			}
			if i%10 == 0 {
				compare(t, m, model, k)
			}
		}
	}
}

func compare(t *testing.T, m *Map[int, string], model map[int]string, k int) {
	t.Helper()
	keys := slices.Sorted(maps.Keys(model))
	if !slices.Equal(m.Keys(), keys) || m.Len() != len(keys) {
		t.Fatal("Keys", m.Keys(), keys)
	}
	at, is := slices.BinarySearch(keys, k)
	behind := at
	if is {
		behind++
	}
	tell := func(what string, i, k int, v string, ok bool) {
		if i < 0 || i >= len(keys) {
			if k != 0 || v != "" || ok {
				t.Fatal(what, k, v, ok)
			}
		} else if k != keys[i] || v != model[k] || !ok {
			t.Fatal(what, k, v, ok)
		}
	}
	f, v, ok := m.First()
	tell("First", 0, f, v, ok)
	f, v, ok = m.Last()
	tell("Last", len(keys)-1, f, v, ok)
	f, v, ok = m.From(k)
	tell("From", at, f, v, ok)
	f, v, ok = m.Behind(k)
	tell("Behind", behind, f, v, ok)
	f, v, ok = m.Ahead(k)
	tell("Ahead", at-1, f, v, ok)
}

// P7.2
func TestNil(t *testing.T) {
	var m *Map[string, int]
	m.Clear()
	if v, ok := m.Put("a", 1); v != 0 || ok || m.Len() != 0 || m.Keys() != nil {
		t.Error("it takes nothing")
	}
	for _, f := range []func(string) (string, int, bool){m.From, m.Behind, m.Ahead, func(string) (string, int, bool) { return m.First() }, func(string) (string, int, bool) { return m.Last() }} {
		if k, v, ok := f("a"); k != "" || v != 0 || ok {
			t.Error(k, v, ok)
		}
	}
	if _, ok := m.Get("a"); ok {
		t.Error("Get")
	}
	if _, ok := m.Delete("a"); ok {
		t.Error("Delete")
	}
}

// P7.1: each key once, whatever the type
func TestFloats(t *testing.T) {
	m := New[float64, int]()
	for i, k := range []float64{1, math.NaN(), math.Inf(-1), 0, math.NaN(), math.Copysign(0, -1)} {
		m.Put(k, i)
	}
	if l := m.Keys(); len(l) != 4 || !math.IsNaN(l[0]) || l[3] != 1 {
		t.Error(l)
	}
	if v, ok := m.Get(math.NaN()); v != 4 || !ok {
		t.Error(v, ok)
	}
	if k, v, ok := m.Behind(math.NaN()); k != math.Inf(-1) || v != 2 || !ok {
		t.Error(k, v, ok)
	}
}

// P7.1: the order of puts counts for nothing, and great maps are quick
func TestGreat(t *testing.T) {
	m := New[int, int]()
	const n = 200000
	for i := range n {
		m.Put(i, i)
	}
	for i := n - 1; i >= 0; i-- {
		m.Put(-i, i)
	}
	if m.Len() != 2*n-1 {
		t.Error(m.Len())
	}
	for i := 0; i < n; i += 2 {
		m.Delete(i)
	}
	if k, _, _ := m.Behind(10); k != 11 || m.Len() != 2*n-1-n/2 {
		t.Error(k)
	}
}
