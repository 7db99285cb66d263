package date

import (
	"slices"

	"debenture/api"
	"debenture/num"
)

// Working tells whether a day is a working day.
func Working(n int, holidays []int) bool {
	return !none(n) && Weekday(n) < 5 && !slices.Contains(holidays, n)
}

// sorted is the holidays in order: many days may be looked up among them.
func sorted(holidays []int) []int {
	l := slices.Clone(holidays)
	slices.Sort(l)
	return l
}

// workday is the first working day from n on, by so many days a step; false, if there is none.
func workday(n, step int, holidays []int) (int, bool) {
	for ; !none(n); n += step {
		if Weekday(n) < 5 {
			if _, is := slices.BinarySearch(holidays, n); !is {
				return n, true
			}
		}
	}
	return 0, false
}

// Adjust is a day, or a working day for it.
func Adjust(n, rule int, holidays []int) (int, bool) {
	return adjust(n, rule, sorted(holidays))
}

// adjust is Adjust by holidays that are in order.
func adjust(n, rule int, holidays []int) (int, bool) {
	if none(n) {
		return 0, false
	}
	switch rule {
	case api.Unmoved:
		return n, true
	case api.Following:
		return workday(n, 1, holidays)
	case api.Preceding:
		return workday(n, -1, holidays)
	case api.Modified:
		next, ok := workday(n, 1, holidays)
		if ok && sameMonth(n, next) {
			return next, true
		}
		return workday(n, -1, holidays)
	}
	return 0, false
}

// sameMonth tells whether two days are of one month.
func sameMonth(a, b int) bool {
	ay, am, _, _ := Civil(a)
	by, bm, _, _ := Civil(b)
	return ay == by && am == bm
}

// Years is the time between two days in years.
func Years(a, b, basis int) (api.Ratio, bool) {
	if none(a) || none(b) {
		return api.Ratio{}, false
	}
	r := api.Ratio{Num: int64(b - a), Den: 360}
	switch basis {
	case api.Act365:
		r.Den = 365
	case api.Act360:
	case api.Thirty:
		r.Num = int64(thirty(b) - thirty(a))
	default:
		return api.Ratio{}, false
	}
	return num.Reduce(r)
}

// thirty counts a day as if each month had thirty.
func thirty(n int) int {
	year, month, day, _ := Civil(n)
	return 360*year + 30*month + min(day, 30)
}

// Schedule is the days from one to another, so many months apart.
func Schedule(from, to, months, rule int, holidays []int) ([]int, bool) {
	if none(from) || none(to) || to <= from || months < 1 || months > 1200 {
		return nil, false
	}
	days := []int{from}
	for k := 1; len(days) <= api.MaxDates; k++ {
		n, ok := Months(from, k*months)
		if !ok || n >= to {
			break
		}
		days = append(days, n)
	}
	days = append(days, to)
	if len(days) > api.MaxDates {
		return nil, false
	}
	free := sorted(holidays)
	for i, n := range days {
		m, ok := adjust(n, rule, free)
		if !ok {
			return nil, false
		}
		days[i] = m
	}
	slices.Sort(days)
	return slices.Compact(days), true
}
