// Package archive is chapter 10: the archive's record. See shared/doc/10-archive.md.
package archive

import (
	"strconv"

	"lacquer/api"
)

// firstError lets a function list its errors in the order in which they count.
func firstError(l ...api.Errno) api.Errno {
	for _, e := range l {
		if e != api.OK {
			return e
		}
	}
	return api.OK
}

// when returns e if it applies.
func when(applies bool, e api.Errno) api.Errno {
	if applies {
		return e
	}
	return api.OK
}

// checkItems returns the error of the first of count items that has one, and the index of this item.
func checkItems(count int, check func(index int) api.Errno) (int, api.Errno) {
	for i := range count {
		if e := check(i); e != api.OK {
			return i, e
		}
	}
	return 0, api.OK
}

func checkName(name string) api.Errno {
	if name == "" || len(name) > api.MaxName || !isLetter(name[0]) {
		return api.ErrName
	}
	for i := range len(name) {
		if c := name[i]; !isLetter(c) && !isDigit(c) && c != '-' {
			return api.ErrName
		}
	}
	return api.OK
}

func isLetter(c byte) bool {
	return 'a' <= c && c <= 'z' || 'A' <= c && c <= 'Z'
}

func isDigit(c byte) bool {
	return '0' <= c && c <= '9'
}

// numberOf returns the number with this string, if it has no sign and not too many digits.
func numberOf(word string, digits int) (int, bool) {
	if len(word) > digits {
		return 0, false
	}
	n, e := strconv.Atoi(word)
	// Atoi also reads what is no number here, such as "+1", "01" and "-0".
	return n, e == nil && n >= 0 && strconv.Itoa(n) == word
}
