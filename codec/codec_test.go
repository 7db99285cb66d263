package codec

import (
	"bytes"
	"encoding/binary"
	"math"
	"math/rand"
	"slices"
	"strings"
	"testing"

	"debenture/api"
)

// P3.1
func TestWriter(t *testing.T) {
	var w Writer
	w.Size(300).Signed(-1).Text("ab").Fixed4(0x01020304).Fixed8(0x0102030405060708).Raw("xyz").Size(-5)
	want := "\xac\x02" + "\x01" + "\x02ab" + "\x01\x02\x03\x04" + "\x01\x02\x03\x04\x05\x06\x07\x08" + "xyz" + "\x00"
	if w.Bytes() != want || w.Bytes() != want {
		t.Errorf("%x", w.Bytes())
	}
	if p := w.Raw(""); p != &w || w.Bytes() != want {
		t.Error("a call answers the writer")
	}
	var none *Writer
	if none.Size(1).Signed(1).Fixed4(1).Fixed8(1).Text("a").Raw("a") != nil || none.Bytes() != "" {
		t.Error("a nil writer")
	}
	PutTexts(none, []string{"a"})
	PutInts(none, []int64{1})
	if new(Writer).Bytes() != "" {
		t.Error("an empty one")
	}
}

// P3.1, P3.4
func TestSizes(t *testing.T) {
	for _, n := range []int{0, 1, 127, 128, 300, 16383, 16384, 1<<62 - 1, 1 << 62, math.MaxInt64} {
		s := new(Writer).Size(n).Bytes()
		if s != string(binary.AppendUvarint(nil, uint64(n))) {
			t.Errorf("%d: %x", n, s)
		}
		r := Read(s)
		if m := r.Size(); m != n || !r.End() {
			t.Error(n, m)
		}
		cut(t, s, func(r *Reader) bool { return r.Size() == 0 })
	}
	for _, n := range []int64{0, -1, 1, 63, -64, 64, math.MaxInt64, math.MinInt64, math.MinInt64 + 1} {
		s := new(Writer).Signed(n).Bytes()
		if s != string(binary.AppendVarint(nil, n)) {
			t.Errorf("%d: %x", n, s)
		}
		r := Read(s)
		if m := r.Signed(); m != n || !r.End() {
			t.Error(n, m)
		}
		cut(t, s, func(r *Reader) bool { return r.Signed() == 0 })
	}
}

// cut holds that bytes that were cut off are bad from then on.
func cut(t *testing.T, s string, nothing func(*Reader) bool) {
	t.Helper()
	for i := range len(s) {
		r := Read(s[:i])
		if !nothing(r) || r.Good() || r.End() || r.Left() != 0 {
			t.Errorf("cut %x at %d", s, i)
		}
	}
}

// P3.2
func TestBad(t *testing.T) {
	ff := strings.Repeat("\xff", 8)
	for _, s := range []string{"", "\x80", "\x80\x00", "\xac\x82\x00", ff + "\x80\x01", ff + "\xff\x01", ff + "\xff\x00", ff + "\xff\xff\xff", strings.Repeat("\x80", 30)} {
		r := Read(s + "abc")
		if s == "" || s == "\x80" {
			r = Read(s)
		}
		if n := r.Size(); n != 0 || r.Good() || r.End() || r.Left() != 0 || r.Size() != 0 || r.Raw(0) != "" || r.Text(9) != "" || r.Fixed4() != 0 || r.Fixed8() != 0 || r.Signed() != 0 {
			t.Errorf("%x: %d", s, n)
		}
	}
	for _, s := range []string{ff + "\xff\x02", ff + "\xff\x03", ff + "\xff\x81\x00", ff + "\xff\xff\x01"} {
		r := Read(s)
		if n := r.Signed(); n != 0 || r.Good() {
			t.Errorf("%x: %d", s, n)
		}
	}
	if r := Read(ff + "\x7f"); r.Size() != math.MaxInt64 || !r.End() {
		t.Error("the greatest size")
	}
	for _, most := range []int{-1, 0, 1} {
		if r := Read("\x02ab"); r.Text(most) != "" || r.Good() {
			t.Error("a text longer than", most)
		}
	}
	if r := Read("\x00"); r.Text(-1) != "" || r.Good() {
		t.Error("an empty text longer than -1")
	}
	if r := Read("\x03ab"); r.Text(9) != "" || r.Good() {
		t.Error("a text longer than what is left")
	}
	for _, n := range []int{-1, 4, math.MaxInt} {
		if r := Read("abc"); r.Raw(n) != "" || r.Good() {
			t.Error("Raw", n)
		}
	}
	if r := Read("abc"); r.Raw(2) != "ab" || r.Left() != 1 || !r.Good() || r.End() || r.Raw(0) != "" || r.Raw(1) != "c" || !r.End() || !r.Good() {
		t.Error("Raw")
	}
	if r := Read("abc"); r.Fixed4() != 0 || r.Good() {
		t.Error("Fixed4")
	}
	if r := Read("abcdefg"); r.Fixed8() != 0 || r.Good() {
		t.Error("Fixed8")
	}
	var none *Reader
	if none.Size() != 0 || none.Signed() != 0 || none.Fixed4() != 0 || none.Fixed8() != 0 || none.Text(1) != "" || none.Text(-1) != "" || none.Raw(0) != "" || none.Raw(1) != "" || none.Left() != 0 || none.Good() || none.End() || GetTexts(none, 1) != nil || GetInts(none, 1) != nil {
		t.Error("a nil reader")
	}
}

// P3.3
func TestLists(t *testing.T) {
	texts := []string{"", "a", strings.Repeat("x", api.MaxValue)}
	var w Writer
	PutTexts(&w, texts)
	PutInts(&w, []int64{-1, 5, math.MinInt64})
	PutInts(&w, nil)
	r := Read(w.Bytes())
	if !slices.Equal(GetTexts(r, 3), texts) || !slices.Equal(GetInts(r, 3), []int64{-1, 5, math.MinInt64}) || GetInts(r, 0) != nil || !r.End() {
		t.Error("lists")
	}
	if r := Read(w.Bytes()); GetTexts(r, 2) != nil || r.Good() {
		t.Error("more than so many")
	}
	w = Writer{}
	PutTexts(&w, []string{"a", strings.Repeat("x", api.MaxValue+1)})
	if r := Read(w.Bytes()); GetTexts(r, 9) != nil || r.Good() {
		t.Error("a text that is too long")
	}
	if r := Read("\x02\x01a"); GetTexts(r, 9) != nil || r.Good() {
		t.Error("cut off")
	}
	if r := Read("\x00"); GetInts(r, -1) != nil || r.Good() {
		t.Error("none, but at most -1")
	}
	if r := Read(new(Writer).Size(math.MaxInt64).Raw("abc").Bytes()); GetInts(r, math.MaxInt) != nil || r.Good() {
		t.Error("a great number")
	}
	if r := Read("\x02\x02\x80"); GetInts(r, 5) != nil || r.Good() {
		t.Error("a number that is bad")
	}
}

// P3.4
func TestOneWay(t *testing.T) {
	rnd := rand.New(rand.NewSource(1))
	for range 100000 {
		b := make([]byte, rnd.Intn(12))
		rnd.Read(b)
		if rnd.Intn(2) == 0 {
			for i := range b {
				b[i] |= 128
			}
		}
		r := Read(string(b))
		if n := r.Size(); r.Good() {
			if !bytes.HasPrefix(b, []byte(new(Writer).Size(n).Bytes())) {
				t.Fatalf("%x %d", b, n)
			}
		}
		r = Read(string(b))
		if n := r.Signed(); r.Good() {
			if !bytes.HasPrefix(b, []byte(new(Writer).Signed(n).Bytes())) {
				t.Fatalf("%x %d", b, n)
			}
		}
	}
}
