// Package listen is chapter 9: listening and loudness. See shared/doc/09-listen.md.
package listen

import "lacquer/api"

// firstError lets a function list its errors in the order in which they count.
func firstError(l ...api.Errno) api.Errno {
	for _, e := range l {
		if e != api.OK {
			return e
		}
	}
	return api.OK
}

// when returns e if it applies.
func when(applies bool, e api.Errno) api.Errno {
	if applies {
		return e
	}
	return api.OK
}

// checkEach returns the error of the first item that has one.
func checkEach[T any](l []T, check func(T) api.Errno) api.Errno {
	for _, item := range l {
		if e := check(item); e != api.OK {
			return e
		}
	}
	return api.OK
}

// from returns the check of a number from lo to hi.
func from(lo, hi int) func(int) api.Errno {
	return func(n int) api.Errno { return when(n < lo || n > hi, api.ErrRange) }
}

func checkSignal(x []int) api.Errno {
	return firstError(
		when(len(x) > api.MaxListenSignal, api.ErrLarge),
		checkEach(x, from(-api.MaxSample, api.MaxSample)))
}
