package wal

import (
	"slices"
	"strconv"
	"strings"
)

const (
	mostNumber = 999999
	mostName   = 8

	logKind = ".log"
	ackKind = ".ack"
	newKind = ".new"
)

// named tells whether a log may have that name.
func named(name string) bool {
	if len(name) < 1 || len(name) > mostName {
		return false
	}
	for i := range len(name) {
		if name[i] < 'a' || name[i] > 'z' {
			return false
		}
	}
	return true
}

// file is the name of a segment's file.
func (w *Wal) file(n int, kind string) string {
	digits := strconv.Itoa(n)
	return w.name + "." + strings.Repeat("0", 6-min(6, len(digits))) + digits + kind
}

// segments is the numbers of all segments, rising.
func (w *Wal) segments() []int {
	var l []int
	for _, file := range w.d.Names() {
		rest, ours := strings.CutPrefix(file, w.name+".")
		if !ours {
			continue
		}
		digits, is := strings.CutSuffix(rest, logKind)
		if !is {
			digits, is = strings.CutSuffix(rest, ackKind)
		}
		n, err := strconv.Atoi(digits)
		if is && err == nil && n <= mostNumber && w.file(n, "") == w.name+"."+digits {
			l = append(l, n)
		}
	}
	slices.Sort(l)
	return slices.Compact(l)
}
