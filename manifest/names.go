package manifest

import (
	"slices"
	"strconv"
	"strings"

	"debenture/api"
	"debenture/disk"
)

const (
	current     = "CURRENT"
	currentNew  = "CURRENT.new"
	generations = 26 * 26
	mostNumber  = 999999
	tableKind   = ".tab"
)

// Name is a table's file.
func Name(num int) string {
	if num < 1 || num > mostNumber {
		return ""
	}
	digits := strconv.Itoa(num)
	return strings.Repeat("0", 6-len(digits)) + digits + tableKind
}

// number is the number of a table's file; 0, if it is none.
func number(name string) int {
	digits, _ := strings.CutSuffix(name, tableKind)
	n, err := strconv.Atoi(digits)
	if err != nil || Name(n) != name {
		return 0
	}
	return n
}

// logName is the name of a generation's log.
func logName(generation int) string {
	return string([]byte{'m', byte('a' + generation/26), byte('a' + generation%26)})
}

// ofAny tells whether a file is one of a generation.
func ofAny(name string) bool {
	small := func(c byte) bool { return 'a' <= c && c <= 'z' }
	return len(name) > 3 && name[0] == 'm' && small(name[1]) && small(name[2]) && name[3] == '.'
}

// of tells whether a file is one of that generation.
func of(name string, generation int) bool {
	return strings.HasPrefix(name, logName(generation)+".")
}

// drop deletes files, one by one; it answers those that are deleted, and the first error.
func drop(d *disk.Disk, names []string) ([]string, api.Errno) {
	for i, name := range names {
		if err := d.Delete(name); err != api.OK {
			return names[:i], err
		}
	}
	return names, api.OK
}

// clean deletes all files of a kind.
func clean(d *disk.Disk, is func(string) bool) api.Errno {
	names := slices.DeleteFunc(d.Names(), func(name string) bool { return !is(name) })
	_, err := drop(d, names)
	return err
}
