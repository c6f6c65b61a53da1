// Package session is chapter 8: sessions of reversible steps. See shared/doc/08-session.md.
package session

import "lacquer/api"

// firstError lets a function list its errors in the order in which they count.
func firstError(l ...api.Errno) api.Errno {
	for _, e := range l {
		if e != api.OK {
			return e
		}
	}
	return api.OK
}

// when returns e if it applies.
func when(applies bool, e api.Errno) api.Errno {
	if applies {
		return e
	}
	return api.OK
}

// checkItems returns the error of the first of count items that has one, and the index of this item.
func checkItems(count int, check func(index int) api.Errno) (int, api.Errno) {
	for i := range count {
		if e := check(i); e != api.OK {
			return i, e
		}
	}
	return 0, api.OK
}

// checkEach returns the error of the first item that has one.
func checkEach[T any](l []T, check func(T) api.Errno) api.Errno {
	_, e := checkItems(len(l), func(i int) api.Errno { return check(l[i]) })
	return e
}

// checkOrder returns the error of an item that does not come after the one before.
func checkOrder(names []string, index int) api.Errno {
	return when(index > 0 && names[index] <= names[max(index-1, 0)], api.ErrOrder)
}

func checkName(name string) api.Errno {
	if name == "" || len(name) > api.MaxName || !isLetter(name[0]) {
		return api.ErrName
	}
	for i := range len(name) {
		if c := name[i]; !isLetter(c) && !isDigit(c) && c != '-' {
			return api.ErrName
		}
	}
	return api.OK
}

func isLetter(c byte) bool {
	return 'a' <= c && c <= 'z' || 'A' <= c && c <= 'Z'
}

func isDigit(c byte) bool {
	return '0' <= c && c <= '9'
}

func checkDoubt(doubt int) api.Errno {
	return when(doubt < 0 || doubt > api.MaxSessionDoubt, api.ErrRange)
}

func checkText(text string) api.Errno {
	return when(len(text) > api.MaxSessionText, api.ErrLarge)
}

// checkSignal returns the error of a signal; a sample that is too large has the error tooLoud.
func checkSignal(x []int, tooLoud api.Errno) api.Errno {
	return firstError(
		when(len(x) > api.MaxSessionSignal, api.ErrLarge),
		checkEach(x, func(n int) api.Errno {
			return when(n < -api.MaxSample || n > api.MaxSample, tooLoud)
		}))
}
