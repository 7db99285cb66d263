package ledger

import (
	"math"
	"math/rand"
	"slices"
	"testing"

	"debenture/api"
	"debenture/life"
)

const big = math.MaxInt64

// P24.1
func TestRight(t *testing.T) {
	for i, l := range [][]Account{nil, {{"a", "USD", 1}}, {{"a", "EUR", -1}, {"a", "USD", 1}, {"b", "EUR", math.MinInt64}}} {
		if !Right(l) {
			t.Error(i)
		}
	}
	for i, l := range [][]Account{{{"a", "USD", 0}}, {{"", "USD", 1}}, {{"a", "1", 1}}, {{"a", "USD", 1}, {"a", "USD", 1}}, {{"a", "USD", 1}, {"a", "EUR", 1}}, {{"b", "EUR", 1}, {"a", "USD", 1}}, {{"a b", "USD", 1}}} {
		if Right(l) || Even(l) || Get(l, "a", "USD") != 0 || Clear(l, "USD") != nil {
			t.Error("wrong", i)
		}
		if b, err := Post(l, nil); b != nil || err != api.ErrArg {
			t.Error(i, err)
		}
	}
	l := []Account{{"a", "EUR", -1}, {"a", "USD", 7}}
	if Get(l, "a", "USD") != 7 || Get(l, "b", "USD") != 0 || Get(l, "a", "JPY") != 0 || Get(nil, "", "") != 0 {
		t.Error("Get")
	}
}

// P24.1
func TestPost(t *testing.T) {
	l, err := Post(nil, []Move{{"a", "b", "USD", 5}})
	if err != api.OK || !slices.Equal(l, []Account{{"a", "USD", -5}, {"b", "USD", 5}}) {
		t.Error(l, err)
	}
	m, err := Post(l, []Move{{"b", "c", "USD", 5}, {"c", "a", "EUR", 1}, {"a", "c", "EUR", 1}})
	if err != api.OK || !slices.Equal(m, []Account{{"a", "USD", -5}, {"c", "USD", 5}}) || !slices.Equal(l, []Account{{"a", "USD", -5}, {"b", "USD", 5}}) {
		t.Error(m, err)
	}
	for i, x := range []Move{{"a", "a", "USD", 1}, {"a", "b", "USD", 0}, {"a", "b", "USD", -1}, {"", "b", "USD", 1}, {"a", "1", "USD", 1}, {"a", "b", "", 1}} {
		if l, err := Post(nil, []Move{{"a", "b", "USD", big}, {"a", "b", "USD", big}, x}); l != nil || err != api.ErrArg {
			t.Error(i, err)
		}
	}
	if l, err := Post(nil, []Move{{"a", "b", "USD", big}, {"a", "b", "USD", 1}}); l != nil || err != api.ErrRange {
		t.Error(l, err)
	}
	if l, err := Post(nil, []Move{{"a", "b", "USD", big}, {"a", "b", "USD", big}, {"b", "a", "USD", big}}); !slices.Equal(l, []Account{{"a", "USD", -big}, {"b", "USD", big}}) || err != api.OK {
		t.Error("in between", l, err)
	}
	if l, err := Post([]Account{{"a", "USD", math.MinInt64}}, []Move{{"a", "b", "USD", 1}, {"c", "a", "USD", 1}}); !slices.Equal(l, []Account{{"a", "USD", math.MinInt64}, {"b", "USD", 1}, {"c", "USD", -1}}) || err != api.OK {
		t.Error(l, err)
	}
	got := Touched([]Move{{"b", "a", "USD", 1}, {"a", "c", "EUR", 1}, {"b", "a", "USD", 1}, {"", "", "1", -1}})
	if !slices.Equal(got, [][2]string{{"", "1"}, {"a", "EUR"}, {"a", "USD"}, {"b", "USD"}, {"c", "EUR"}}) || Touched(nil) != nil {
		t.Error(got)
	}
}

// P24.2
func TestSettle(t *testing.T) {
	f := []life.Flow{{Coin: "USD", Amount: 5}, {Coin: "EUR", Amount: -3}, {Coin: "USD", Amount: 2}, {Coin: "JPY", Amount: 1}, {Coin: "JPY", Amount: -1}}
	l, err := Settle(f, "ann", "bob")
	if err != api.OK || !slices.Equal(l, []Move{{"ann", "bob", "EUR", 3}, {"bob", "ann", "USD", 7}}) {
		t.Error(l, err)
	}
	if l, err = Settle(nil, "a", "b"); l != nil || err != api.OK {
		t.Error(l, err)
	}
	for _, c := range [][2]string{{"a", "a"}, {"", "b"}, {"a", "b c"}} {
		if l, err = Settle([]life.Flow{{Coin: "A", Amount: math.MinInt64}}, c[0], c[1]); l != nil || err != api.ErrArg {
			t.Error(c, err)
		}
	}
	for _, f := range [][]life.Flow{{{Coin: "A", Amount: big}, {Coin: "A", Amount: 1}}, {{Coin: "A", Amount: 1}, {Coin: "B", Amount: math.MinInt64}}, {{Coin: "B", Amount: math.MinInt64}, {Coin: "B", Amount: -1}}} {
		if l, err = Settle(f, "a", "b"); l != nil || err != api.ErrRange {
			t.Error(f, err)
		}
	}
	if l, err = Settle([]life.Flow{{Coin: "A", Amount: -big}}, "a", "b"); err != api.OK || !slices.Equal(l, []Move{{"a", "b", "A", big}}) {
		t.Error(l, err)
	}
}

// P24.2, P24.3
func TestClear(t *testing.T) {
	for want, l := range map[bool][]Account{true: {{"a", "EUR", 1}, {"a", "USD", -5}, {"b", "EUR", -1}, {"b", "USD", 3}, {"c", "USD", 2}}, false: {{"a", "EUR", 1}, {"a", "USD", -5}, {"b", "USD", 3}, {"c", "USD", 2}}} {
		if Even(l) != want {
			t.Error(l)
		}
		moves := []Move{{"b", "a", "USD", 3}, {"c", "a", "USD", 2}}
		if got := Clear(l, "USD"); !slices.Equal(got, moves) && want || !want && got != nil {
			t.Error(got)
		}
	}
	if !Even(nil) || Clear(nil, "A") != nil {
		t.Error("nothing")
	}
	l := []Account{{"a", "X", math.MinInt64}, {"b", "X", big}, {"c", "X", 1}}
	if got := Clear(l, "X"); !slices.Equal(got, []Move{{"b", "a", "X", big}, {"c", "a", "X", 1}}) {
		t.Error(got)
	}
	if got := Clear([]Account{{"a", "X", 5}, {"b", "X", -2}, {"c", "X", -3}}, "X"); !slices.Equal(got, []Move{{"a", "c", "X", 3}, {"a", "b", "X", 2}}) {
		t.Error("of the lesser", got)
	}
	if got := Clear([]Account{{"a", "X", 2}, {"b", "X", 2}, {"c", "X", -2}, {"d", "X", -2}}, "X"); !slices.Equal(got, []Move{{"a", "c", "X", 2}, {"b", "d", "X", 2}}) {
		t.Error("of the same the first", got)
	}
}

// P24.4
func TestFollows(t *testing.T) {
	r := rand.New(rand.NewSource(1))
	for range 3000 {
		var books []Account
		for range r.Intn(9) {
			var m []Move
			for range r.Intn(5) {
				x := Move{string(rune('a' + r.Intn(4))), string(rune('a' + r.Intn(4))), []string{"EUR", "USD"}[r.Intn(2)], 1 + r.Int63n(big)>>r.Intn(62)}
				if x.From != x.To && x.Amount > 0 {
					m = append(m, x)
				}
			}
			if after, err := Post(books, m); err == api.OK {
				books = after
			} else if err != api.ErrRange {
				t.Fatal(err)
			}
			if !Even(books) {
				t.Fatal(books)
			}
		}
		for _, coin := range []string{"EUR", "USD"} {
			m := Clear(books, coin)
			n := 0
			for _, a := range books {
				if a.Coin == coin {
					n++
				}
			}
			after, err := Post(books, m)
			if err != api.OK || n > 0 && len(m) >= n || n == 0 && m != nil || slices.ContainsFunc(after, func(a Account) bool { return a.Coin == coin }) {
				t.Fatal(books, m, after, err)
			}
		}
	}
}
