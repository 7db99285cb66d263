package bloom

import (
	"math"
	"slices"
	"strconv"
	"strings"
	"testing"

	"debenture/crc"
)

// P8.1
func TestBits(t *testing.T) {
	for n, want := range map[int]int{-1: 64, math.MinInt: 64, 0: 64, 6: 64, 7: 72, 8: 80, 100: 1000, 101: 1016, 1 << 20: 10 << 20, 1<<20 + 1: 10 << 20, math.MaxInt: 10 << 20} {
		if m := Bits(n); m != want {
			t.Error(n, m)
		}
	}
}

// P8.1
func TestPlaces(t *testing.T) {
	for _, key := range []string{"", "a", "some key\x00"} {
		for _, m := range []int{1, 7, 64, 1 << 20, 1 << 30} {
			a, b := crc.Sum(key), crc.More(0x9e3779b9, key)|1
			var want []int
			for i := range uint32(6) {
				want = append(want, int(a+i*b)%m)
			}
			if l := Places(key, m); !slices.Equal(l, want) {
				t.Error(key, m, l, want)
			}
		}
		for _, m := range []int{0, -1, 1<<30 + 1, math.MaxInt, math.MinInt} {
			if l := Places(key, m); l != nil {
				t.Error(m, l)
			}
		}
	}
}

// P8.2, P8.3
func TestMake(t *testing.T) {
	if Make(nil) != strings.Repeat("\x00", 8) || Has(Make(nil), "a") || Has("", "a") || Has("", "") {
		t.Error("nothing")
	}
	if Has(strings.Repeat("\xff", 1<<27+1), "a") || !Has(strings.Repeat("\xff", 1<<27), "a") || !Has("\xff", "a") {
		t.Error("great filters")
	}
	var keys []string
	for i := range 1000 {
		keys = append(keys, "key"+strconv.Itoa(i))
	}
	f := Make(keys)
	set := make([]byte, Bits(1000)/8)
	for _, key := range keys {
		if !Has(f, key) {
			t.Error("lost", key)
		}
		for _, at := range Places(key, Bits(1000)) {
			set[at/8] |= 1 << (at % 8)
		}
	}
	if f != string(set) {
		t.Error("just the places of the keys are set")
	}
	wrong := 0
	for i := range 10000 {
		if Has(f, "other"+strconv.Itoa(i)) {
			wrong++
		}
	}
	if wrong > 300 {
		t.Error("too many are probably there:", wrong)
	}
	slices.Reverse(keys)
	if Make(keys) != f {
		t.Error("the order counts")
	}
	one := Make([]string{"a"})
	for _, at := range Places("a", 64) {
		b := []byte(one)
		b[at/8] &^= 1 << (at % 8)
		if Has(string(b), "a") {
			t.Error("a place isn't set")
		}
	}
}
