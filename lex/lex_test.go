package lex

import (
	"fmt"
	"math/rand"
	"strings"
	"testing"

	"debenture/api"
)

func texts(l []Word) string {
	s := ""
	for _, w := range l {
		s += fmt.Sprintf("%d:%s:%d:%d ", w.Kind, w.Text, w.N, w.At)
	}
	return strings.TrimSpace(s)
}

// P17.1
func TestWords(t *testing.T) {
	for s, want := range map[string]string{
		"":                                 "",
		" \t\n# all of it":                 "",
		"one(USD)":                         "3:one:0:0 0:(:0:3 3:USD:0:4 0:):0:7",
		"day>=2024-01-31":                  "3:day:0:0 0:>=:0:3 2:2024-01-31:19753:5",
		"<==!=!>>=<=":                      "0:<=:0:0 0:=:0:2 0:!=:0:3 0:!:0:5 0:>:0:6 0:>=:0:7 0:<=:0:9",
		"(),+-*/<=&|":                      "0:(:0:0 0:):0:1 0:,:0:2 0:+:0:3 0:-:0:4 0:*:0:5 0:/:0:6 0:<=:0:7 0:&:0:9 0:|:0:10",
		"0 9223372036854775807":            "1:0:0:0 1:9223372036854775807:9223372036854775807:2",
		"a# b\nc#":                         "3:a:0:0 3:c:0:5",
		"2024-1-31":                        "1:2024:2024:0 0:-:0:4 1:1:1:5 0:-:0:6 1:31:31:7",
		"1969-12-31":                       "1:1969:1969:0 0:-:0:4 1:12:12:5 0:-:0:7 1:31:31:8",
		"2023-12-32":                       "1:2023:2023:0 0:-:0:4 1:12:12:5 0:-:0:7 1:32:32:8",
		"2024-10-311":                      "1:2024:2024:0 0:-:0:4 1:10:10:5 0:-:0:7 1:311:311:8",
		"2024-01-31-1":                     "2:2024-01-31:19753:0 0:-:0:10 1:1:1:11",
		"1-2":                              "1:1:1:0 0:-:0:1 1:2:2:2",
		"a_1 Abcdefghijklmno_":             "3:a_1:0:0 3:Abcdefghijklmno_:0:4",
		"a(1970-01-01)":                    "3:a:0:0 0:(:0:1 2:1970-01-01:0:2 0:):0:12",
		strings.Repeat(" ", 3999) + "a":    "3:a:0:3999",
		"9999-12-31":                       fmt.Sprintf("2:9999-12-31:%d:0", api.MaxDay),
		"x#\n#\n\n# y\n\t1":                "3:x:0:0 1:1:1:11",
		"1#a":                              "1:1:1:0",
		"2024-01-31#x":                     "2:2024-01-31:19753:0",
		"2024-11-11" + "(":                 "2:2024-11-11:20038:0 0:(:0:10",
		"12024-01-31"[1:5] + "+" + "0":     "1:2024:2024:0 0:+:0:4 1:0:0:5",
		"a" + strings.Repeat("\n", 3) + "": "3:a:0:0",
	} {
		l, at, err := Words(s)
		if texts(l) != want || at != 0 || err != api.OK {
			t.Errorf("%q: %s %d %d", s, texts(l), at, err)
		}
	}
	for s, want := range map[string]int{
		"_a": 0, "a $": 2, "a\r": 1, "01": 0, "00": 0, "1a": 0, "1_": 0, "9223372036854775808": 0, "99999999999999999999999": 0,
		"a b23456789012345_7": 2, "2024-01-311": 5, "2024-01-31a": 5, "2024-02-30": 5, "a==b ?": 5, "\x00": 0, "é": 0, "one(\"": 4, "a.b": 1, "1 2 3e": 4, "10-1-01": 5, "a;": 1, "{": 0, "@": 0, "[": 0, "`": 0, "~": 0, "^": 0, "%": 0, ":": 0, "2024-01-31_": 5,
	} {
		l, at, err := Words(s)
		if l != nil || at != want || err != api.ErrParse {
			t.Errorf("%q: %s %d %d", s, texts(l), at, err)
		}
	}
	if l, at, err := Words(strings.Repeat("$", 4001)); l != nil || at != 0 || err != api.ErrLong {
		t.Error(at, err)
	}
}

// P17.1
func TestNamed(t *testing.T) {
	for c := range 256 {
		b := byte(c)
		if Letter(b) != (b >= 'a' && b <= 'z' || b >= 'A' && b <= 'Z') {
			t.Error(c)
		}
	}
	for s, want := range map[string]bool{"a": true, "A_9": true, "a234567890123456": true, "a2345678901234567": false, "": false, "_a": false, "1a": false, "a b": false, "a-": false, "a\n": false, "é": false, "zero": true} {
		if Named(s) != want {
			t.Error(s)
		}
	}
}

// P17.2
func TestBlanks(t *testing.T) {
	r := rand.New(rand.NewSource(1))
	parts := []string{"one", "(", ")", "<=", "2024-01-31", "17", "=", "!", "a_b", "-", ">"}
	blank := []string{" ", "\n", "\t", "# x (\n"}
	for range 3000 {
		s, more := "", ""
		var want []string
		for range r.Intn(12) {
			p := parts[r.Intn(len(parts))]
			want = append(want, p)
			s += p + blank[r.Intn(4)]
			more += blank[r.Intn(4)] + p + blank[r.Intn(4)] + blank[r.Intn(4)]
		}
		for _, x := range []string{s, more} {
			l, _, err := Words(x)
			if err != api.OK || len(l) != len(want) {
				t.Fatalf("%q %d", x, err)
			}
			for i, w := range l {
				if w.Text != want[i] || x[w.At:w.At+len(w.Text)] != w.Text {
					t.Fatalf("%q %v", x, w)
				}
			}
		}
	}
}
