package date

import (
	"math"
	"slices"
	"testing"
	"time"

	"debenture/api"
)

func day(t *testing.T, s string) int {
	t.Helper()
	n, ok := Parse(s)
	if !ok {
		t.Fatal(s)
	}
	return n
}

// P2.1, P2.2
func TestEveryDay(t *testing.T) {
	at := time.Date(1970, 1, 1, 0, 0, 0, 0, time.UTC)
	for n := 0; n <= api.MaxDay; n++ {
		y, m, d, ok := Civil(n)
		wy, wm, wd := at.Date()
		if !ok || y != wy || m != int(wm) || d != wd {
			t.Fatal(n, y, m, d)
		}
		if o, ok := Of(y, m, d); o != n || !ok {
			t.Fatal(n, o)
		}
		if n%17 == 0 {
			s := Print(n)
			if p, ok := Parse(s); p != n || !ok || s != at.Format("2006-01-02") || Weekday(n) != (int(at.Weekday())+6)%7 {
				t.Fatal(n, s, p)
			}
		}
		at = at.AddDate(0, 0, 1)
	}
}

// P2.1
func TestNone(t *testing.T) {
	for _, n := range []int{-1, api.MaxDay + 1, math.MaxInt, math.MinInt} {
		y, m, d, ok := Civil(n)
		if y != 0 || m != 0 || d != 0 || ok || Weekday(n) != -1 || Print(n) != "" || Working(n, nil) {
			t.Error(n)
		}
		if o, ok := Months(n, 1); o != 0 || ok {
			t.Error(n)
		}
	}
	for _, c := range [][3]int{{1969, 12, 31}, {10000, 1, 1}, {2023, 2, 29}, {2024, 2, 30}, {2024, 0, 1}, {2024, 13, 1}, {2024, 1, 0}, {2024, 1, 32}, {2024, 1, -1}, {1900, 2, 29}, {math.MinInt, math.MinInt, math.MinInt}, {math.MaxInt, 1, 1}} {
		if n, ok := Of(c[0], c[1], c[2]); n != 0 || ok {
			t.Error(c, n)
		}
	}
	for y, want := range map[int]bool{2024: true, 2023: false, 2100: false, 2000: true, 0: true, -4: true, -100: false, -400: true, -1: false} {
		if Leap(y) != want {
			t.Error(y)
		}
	}
	for _, c := range [][3]int{{2024, 2, 29}, {2023, 2, 28}, {2023, 4, 30}, {-1, 1, 31}, {2023, 0, 0}, {2023, 13, 0}, {2023, -5, 0}, {2000, 12, 31}} {
		if Days(c[0], c[1]) != c[2] {
			t.Error(c)
		}
	}
}

// P2.2
func TestParse(t *testing.T) {
	if day(t, "1970-01-01") != 0 || day(t, "9999-12-31") != api.MaxDay || day(t, "2024-01-31") != 19753 {
		t.Error("Parse")
	}
	for _, s := range []string{"", "2024-1-31", "2024-01-32", "2024/01/31", "2024/01-31", "2024-01/31", "2024-0;-01", "2024-1/-10", "202:-01-01", "2024-02-30", "1969-12-31", " 2024-01-31", "2024-01-31 ", "2024-01-3a", "+024-01-31", "20240131", "2024-01-3", "-024-01-31", "0000-00-00", "２024-01-3", "2024-13-01", "2024-00-10"} {
		if n, ok := Parse(s); n != 0 || ok {
			t.Error(s, n)
		}
	}
}

// P2.3
func TestMonths(t *testing.T) {
	for _, c := range []struct {
		from   string
		months int
		want   string
	}{{"2024-01-31", 1, "2024-02-29"}, {"2023-01-31", 1, "2023-02-28"}, {"2024-03-31", -1, "2024-02-29"}, {"2024-01-31", 0, "2024-01-31"}, {"2024-01-15", 12, "2025-01-15"}, {"2024-01-15", -13, "2022-12-15"}, {"1970-01-01", 12*8030 - 1, "9999-12-01"}, {"9999-12-31", -(12*8030 - 1), "1970-01-31"}} {
		n, ok := Months(day(t, c.from), c.months)
		if Print(n) != c.want || !ok {
			t.Error(c, Print(n))
		}
	}
	for _, months := range []int{-1, 12 * 8030, math.MaxInt, math.MinInt, -24000, -48000} {
		if n, ok := Months(0, months); n != 0 || ok {
			t.Error(months, n)
		}
	}
}

// P2.3
func TestAdjust(t *testing.T) {
	sat := day(t, "2024-03-30") // the last weekend of March; Friday is a holiday, and Monday, too
	free := []int{sat + 2, sat - 1, sat - 1, -5}
	if Working(sat, nil) || Working(sat+1, nil) || !Working(sat+2, nil) || Working(sat+2, free) || !Working(sat+3, free) {
		t.Error("Working")
	}
	for _, c := range []struct{ n, rule, want int }{
		{sat, api.Unmoved, sat}, {sat, api.Following, sat + 3}, {sat, api.Preceding, sat - 2}, {sat, api.Modified, sat - 2},
		{sat + 2, api.Modified, sat + 3}, {sat + 3, api.Modified, sat + 3}, {sat - 7, api.Modified, sat - 5}, {sat - 1, api.Preceding, sat - 2},
	} {
		if n, ok := Adjust(c.n, c.rule, free); n != c.want || !ok {
			t.Error(c, n)
		}
	}
	if !slices.Equal(free, []int{sat + 2, sat - 1, sat - 1, -5}) {
		t.Error("the holidays were changed")
	}
	for _, c := range []struct {
		n, rule int
		free    []int
	}{{-1, 0, nil}, {api.MaxDay + 1, 1, nil}, {4, -1, nil}, {4, 4, nil}, {0, api.Preceding, []int{0}}, {api.MaxDay, api.Following, []int{api.MaxDay}}} {
		if n, ok := Adjust(c.n, c.rule, c.free); n != 0 || ok {
			t.Error(c, n)
		}
	}
	if n, ok := Adjust(api.MaxDay, api.Modified, []int{api.MaxDay}); n != api.MaxDay-1 || !ok {
		t.Error("Modified at the end", n, ok)
	}
}

// P2.4
func TestYears(t *testing.T) {
	a, b := day(t, "2023-01-31"), day(t, "2023-03-31")
	for _, c := range []struct {
		a, b, basis int
		num, den    int64
	}{{a, b, api.Thirty, 1, 6}, {b, a, api.Thirty, -1, 6}, {a, b, api.Act360, 59, 360}, {a, b, api.Act365, 59, 365}, {a, a, api.Act365, 0, 1}, {0, 365, api.Act365, 1, 1}, {b, a, api.Act360, -59, 360}, {day(t, "2024-02-29"), day(t, "2024-03-01"), api.Thirty, 1, 180}, {day(t, "2024-01-30"), day(t, "2024-01-31"), api.Thirty, 0, 1}} {
		if r, ok := Years(c.a, c.b, c.basis); !ok || r != (api.Ratio{Num: c.num, Den: c.den}) {
			t.Error(c, r)
		}
	}
	for _, c := range [][3]int{{-1, 0, 0}, {0, api.MaxDay + 1, 0}, {0, 1, -1}, {0, 1, 3}} {
		if r, ok := Years(c[0], c[1], c[2]); ok || r != (api.Ratio{}) {
			t.Error(c, r)
		}
	}
}

func texts(l []int) []string {
	var out []string
	for _, n := range l {
		out = append(out, Print(n))
	}
	return out
}

// P2.5
func TestSchedule(t *testing.T) {
	from := day(t, "2024-01-31")
	l, ok := Schedule(from, day(t, "2024-05-10"), 1, api.Unmoved, nil)
	if !ok || !slices.Equal(texts(l), []string{"2024-01-31", "2024-02-29", "2024-03-31", "2024-04-30", "2024-05-10"}) {
		t.Error(texts(l))
	}
	l, ok = Schedule(from, day(t, "2024-03-31"), 1, api.Modified, nil)
	if !ok || !slices.Equal(texts(l), []string{"2024-01-31", "2024-02-29", "2024-03-29"}) {
		t.Error(texts(l))
	}
	sat := day(t, "2024-03-30")
	l, ok = Schedule(sat, sat+1, 1200, api.Following, nil)
	if !ok || !slices.Equal(l, []int{sat + 2}) {
		t.Error("each once", texts(l))
	}
	end := day(t, "9999-12-31")
	l, ok = Schedule(end-30, end, 1, api.Unmoved, nil)
	if !ok || len(l) != 2 {
		t.Error("up to the end", texts(l))
	}
	start := day(t, "2000-01-01")
	last, _ := Months(start, 399)
	if l, ok = Schedule(start, last, 1, api.Unmoved, nil); !ok || len(l) != api.MaxDates {
		t.Error(len(l))
	}
	if l, ok = Schedule(start, last+1, 1, api.Unmoved, nil); ok || l != nil {
		t.Error(len(l))
	}
	if l, ok = Schedule(0, api.MaxDay, 1200, api.Unmoved, nil); !ok || len(l) != 82 {
		t.Error(len(l))
	}
	if l, ok = Schedule(start, last, 1, api.Following, []int{last - 3, last - 2, last - 1}); !ok || !slices.IsSorted(l) {
		t.Error(len(l))
	}
	for _, c := range [][4]int{{api.MaxDay + 1, api.MaxDay + 5, 1, 0}, {math.MinInt, math.MaxInt, 1, 0}, {-1, 5, 1, 0}, {5, 5, 1, 0}, {6, 5, 1, 0}, {0, api.MaxDay + 1, 1200, 0}, {0, 5, 0, 0}, {0, 5, 1201, 0}, {0, 5, 1, 4}, {0, 5, 1, -1}} {
		if l, ok := Schedule(c[0], c[1], c[2], c[3], nil); ok || l != nil {
			t.Error(c, l)
		}
	}
	if l, ok := Schedule(0, 5, 1, api.Preceding, []int{0}); ok || l != nil {
		t.Error("one that can't be adjusted", l)
	}
}
