package cache

import (
	"math/rand"
	"slices"
	"testing"
)

// P10.1
func TestModel(t *testing.T) {
	r := rand.New(rand.NewSource(1))
	for _, most := range []int{-1, 0, 1, 2, 7, 100} {
		c := New[int, string](most)
		var keys []int
		values := map[int]string{}
		hits, misses := 0, 0
		for range 5000 {
			k := r.Intn(12)
			at := slices.Index(keys, k)
			switch r.Intn(3) {
			case 0:
				v := string(rune('a' + r.Intn(26)))
				if at >= 0 {
					keys = slices.Delete(keys, at, at+1)
				}
				keys = append(keys, k)
				values[k] = v
				gone, goes := 0, false
				if len(keys) > max(most, 0) {
					gone, goes = keys[0], true
					keys = keys[1:]
				}
				if g, ok := c.Put(k, v); g != gone || ok != goes {
					t.Fatal("Put", most, k, g, ok)
				}
			case 1:
				v, ok := c.Get(k)
				if ok != (at >= 0) || ok && v != values[k] || !ok && v != "" {
					t.Fatal("Get", k, v, ok)
				}
				if ok {
					hits++
					keys = append(slices.Delete(keys, at, at+1), k)
				} else {
					misses++
				}
			case 2:
				if c.Drop(k) != (at >= 0) {
					t.Fatal("Drop", k)
				}
				if at >= 0 {
					keys = slices.Delete(keys, at, at+1)
				}
			}
			if h, m := c.Hits(); !slices.Equal(c.Keys(), keys) || c.Len() != len(keys) || h != hits || m != misses {
				t.Fatal(most, c.Keys(), keys, h, m)
			}
		}
	}
}

// P10.1
func TestExample(t *testing.T) {
	c := New[string, int](2)
	c.Put("a", 1)
	c.Put("b", 2)
	c.Get("a")
	if k, ok := c.Put("c", 3); k != "b" || !ok {
		t.Error(k, ok)
	}
	if k, ok := New[string, int](0).Put("x", 1); k != "x" || !ok {
		t.Error("a cache of none", k, ok)
	}
	var none *Cache[string, int]
	if k, ok := none.Put("a", 1); k != "" || ok {
		t.Error("nil takes nothing")
	}
	h, m := none.Hits()
	if _, ok := none.Get("a"); ok || none.Drop("a") || none.Len() != 0 || none.Keys() != nil || h != 0 || m != 0 {
		t.Error("a nil cache")
	}
}
