// Package date is layer 2: days, and what is counted by them.
package date

import (
	"strings"

	"debenture/api"
)

const (
	firstYear = 1970
	lastYear  = 9999
)

// none tells whether a number is no day.
func none(n int) bool {
	return n < 0 || n > api.MaxDay
}

// Leap tells whether a year is a leap one.
func Leap(year int) bool {
	return year%4 == 0 && (year%100 != 0 || year%400 == 0)
}

// Days is how many days a month has.
func Days(year, month int) int {
	switch month {
	case 1, 3, 5, 7, 8, 10, 12:
		return 31
	case 4, 6, 9, 11:
		return 30
	case 2:
		if Leap(year) {
			return 29
		}
		return 28
	}
	return 0
}

// ahead is how many days there are from year 1 on to a year's first one.
func ahead(year int) int {
	y := year - 1
	return 365*y + y/4 - y/100 + y/400
}

// firstOf is the first day of a month.
func firstOf(year, month int) int {
	n := ahead(year) - ahead(firstYear)
	for m := 1; m < month; m++ {
		n += Days(year, m)
	}
	return n
}

// Of is the day of a year, a month, and a day of that.
func Of(year, month, day int) (int, bool) {
	if year < firstYear || year > lastYear || day < 1 || day > Days(year, month) {
		return 0, false
	}
	return firstOf(year, month) + day - 1, true
}

// Civil is a day's year, month, and day of that.
func Civil(n int) (int, int, int, bool) {
	if none(n) {
		return 0, 0, 0, false
	}
	year := firstYear + n/366 // never behind the right one, and few years ahead of it
	for firstOf(year+1, 1) <= n {
		year++
	}
	rest := n - firstOf(year, 1)
	month := 1
	for rest >= Days(year, month) {
		rest -= Days(year, month)
		month++
	}
	return year, month, rest + 1, true
}

// Weekday is a day's weekday, from Monday on.
func Weekday(n int) int {
	if none(n) {
		return -1
	}
	return (n + 3) % 7
}

// Parse is the day of a text.
func Parse(s string) (int, bool) {
	if len(s) != 10 || s[4] != '-' || s[7] != '-' {
		return 0, false
	}
	good := true
	number := func(from, to int) int {
		n := 0
		for i := from; i < to; i++ {
			if s[i] < '0' || s[i] > '9' {
				good = false
			}
			n = 10*n + int(s[i]) - '0'
		}
		return n
	}
	year, month, day := number(0, 4), number(5, 7), number(8, 10)
	if !good {
		return 0, false
	}
	return Of(year, month, day)
}

// Print is a day's text.
func Print(n int) string {
	year, month, day, ok := Civil(n)
	if !ok {
		return ""
	}
	var b strings.Builder
	put := func(n, by int) {
		for ; by > 0; by /= 10 {
			b.WriteByte(byte('0' + n/by%10))
		}
	}
	put(year, 1000)
	b.WriteByte('-')
	put(month, 10)
	b.WriteByte('-')
	put(day, 10)
	return b.String()
}

// Months is the same day of a month so many months on.
func Months(n, months int) (int, bool) {
	const most = 12 * (lastYear - firstYear + 1)
	year, month, day, ok := Civil(n)
	if !ok || months < -most || months > most {
		return 0, false
	}
	m := 12*year + month - 1 + months
	year, month = m/12, m%12+1
	return Of(year, month, min(day, Days(year, month)))
}
