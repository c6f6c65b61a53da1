// Package click is chapter 5: clicks and hum. See shared/doc/05-click.md.
package click

import "lacquer/api"

// firstError lets a function list its errors in the order in which they count.
func firstError(l ...api.Errno) api.Errno {
	for _, e := range l {
		if e != api.OK {
			return e
		}
	}
	return api.OK
}

// when returns e if it applies.
func when(applies bool, e api.Errno) api.Errno {
	if applies {
		return e
	}
	return api.OK
}

// checkEach returns the error of the first number that has one.
func checkEach(l []int, check func(int) api.Errno) api.Errno {
	for _, n := range l {
		if e := check(n); e != api.OK {
			return e
		}
	}
	return api.OK
}

// from returns the check of a number from lo to hi.
func from(lo, hi int) func(int) api.Errno {
	return func(n int) api.Errno { return when(n < lo || n > hi, api.ErrRange) }
}

// atMost returns the check of a number that is at most limit in size.
func atMost(limit int) func(int) api.Errno {
	return from(-limit, limit)
}

func checkSignal(x []int) api.Errno {
	return firstError(
		when(len(x) > api.MaxClickSignal, api.ErrLarge),
		checkEach(x, atMost(api.MaxSample)))
}

func checkOrder(r api.Range) api.Errno {
	return when(r.Lo > r.Hi, api.ErrOrder)
}
