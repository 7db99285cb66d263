package crc

import (
	"hash/crc32"
	"math/rand"
	"slices"
	"strings"
	"testing"
)

func random(r *rand.Rand, n int) string {
	b := make([]byte, n)
	r.Read(b)
	return string(b)
}

// P4.1
func TestSum(t *testing.T) {
	if Sum("123456789") != 0xe3069283 || Sum("") != 0 || Laid("123456789") != "\x83\x92\x06\xe3" {
		t.Errorf("%x", Sum("123456789"))
	}
	r := rand.New(rand.NewSource(1))
	table := crc32.MakeTable(crc32.Castagnoli)
	for n := range 300 {
		s := random(r, n)
		want := crc32.Checksum([]byte(s), table)
		cut := r.Intn(n + 1)
		if Sum(s) != want || More(Sum(s[:cut]), s[cut:]) != want {
			t.Fatal(n)
		}
	}
}

// P4.2
func TestFrame(t *testing.T) {
	if MaxBody != 131072 || Whole != 0 || Short != 1 || Bad != 2 {
		t.Error("constants")
	}
	r := rand.New(rand.NewSource(2))
	for _, n := range []int{0, 1, 2, 100, MaxBody} {
		s := random(r, n)
		f, ok := Frame(s)
		if !ok || len(f) != n+12 || f[8:8+n] != s || f[4:8] != Laid(f[:4]) || f[8+n:] != Laid(s) {
			t.Fatal(n)
		}
		if b, size, what := Open(f + "more"); b != s || size != len(f) || what != Whole {
			t.Error(n, size, what)
		}
		for _, cut := range []int{0, 1, 3, 4, 7, 8, 9, len(f) - 5, len(f) - 4, len(f) - 1} {
			if b, size, what := Open(f[:cut]); cut < len(f) && (b != "" || size != 0 || what != Short) {
				t.Error(n, cut, size, what)
			}
		}
	}
	if f, ok := Frame(strings.Repeat("a", MaxBody+1)); f != "" || ok {
		t.Error("too long")
	}
	if f, _ := Frame("ab"); f[:4] != "\x00\x00\x00\x02" {
		t.Errorf("%x", f)
	}
	great := head(MaxBody + 1)
	for _, s := range []string{"\x00\x00\x00\x02abcd", "\x00\x00\x00\x02abcdefgh", great + Laid(great), great + Laid(great) + "abc"} {
		if b, n, what := Open(s); b != "" || n != 0 || what != Bad {
			t.Errorf("%x: %d", s, what)
		}
	}
	if _, n, what := Open("\x00\x00\x00\x02abc"); n != 0 || what != Short {
		t.Error("seven bytes")
	}
	f, _ := Frame("ab")
	if _, n, what := Open(f[:len(f)-1] + "x"); n != 0 || what != Bad {
		t.Error("the last sum")
	}
}

// P4.3
func TestAll(t *testing.T) {
	a, _ := Frame("a")
	none, _ := Frame("")
	b, _ := Frame("bcd")
	if l, n, what := All(a + none + b); !slices.Equal(l, []string{"a", "", "bcd"}) || n != len(a+none+b) || what != Whole {
		t.Error(l, n, what)
	}
	if l, n, what := All(""); l != nil || n != 0 || what != Whole {
		t.Error(l, n, what)
	}
	if l, n, what := All(a + b[:10]); !slices.Equal(l, []string{"a"}) || n != len(a) || what != Short {
		t.Error(l, n, what)
	}
	if l, n, what := All(a + "12345678" + b); !slices.Equal(l, []string{"a"}) || n != len(a) || what != Bad {
		t.Error(l, n, what)
	}
}

func turned(s string, at int, bits uint32) string {
	b := []byte(s)
	for i := range 32 {
		if k := at + i; bits>>i&1 == 1 && k < 8*len(b) {
			b[k/8] ^= 1 << (k % 8)
		}
	}
	return string(b)
}

// P4.4
func TestBursts(t *testing.T) {
	r := rand.New(rand.NewSource(3))
	for range 20000 {
		s := random(r, 1+r.Intn(60))
		f, _ := Frame(s)
		x := turned(f, r.Intn(8*len(f)), r.Uint32()|1)
		if b, n, what := Open(x); what == Whole || n != 0 || b != "" {
			t.Fatalf("%x as %x", f, x)
		}
		if y := turned(s, r.Intn(8*len(s)), r.Uint32()|1); Sum(y) == Sum(s) {
			t.Fatalf("%x %x", s, y)
		}
	}
	s := strings.Repeat("\x00", 5000)
	for n := 1; n <= 4096; n++ {
		at := r.Intn(5000 - n + 1)
		if Sum(s[:at]+strings.Repeat("\xa5", n)+s[at+n:]) == Sum(s) {
			t.Fatal("a5", n)
		}
	}
}
