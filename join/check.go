// Package join is chapter 7: several transfers joined into one. See shared/doc/07-join.md.
package join

import "lacquer/api"

// firstError lets a function list its errors in the order in which they count.
func firstError(l ...api.Errno) api.Errno {
	for _, e := range l {
		if e != api.OK {
			return e
		}
	}
	return api.OK
}

// when returns e if it applies.
func when(applies bool, e api.Errno) api.Errno {
	if applies {
		return e
	}
	return api.OK
}

// checkItems returns the error of the first of count items that has one, and the index of this item.
func checkItems(count int, check func(index int) api.Errno) (int, api.Errno) {
	for i := range count {
		if e := check(i); e != api.OK {
			return i, e
		}
	}
	return 0, api.OK
}

// checkEach returns the error of the first number that has one.
func checkEach(l []int, check func(int) api.Errno) api.Errno {
	_, e := checkItems(len(l), func(i int) api.Errno { return check(l[i]) })
	return e
}

// from returns the check of a number from lo to hi.
func from(lo, hi int) func(int) api.Errno {
	return func(n int) api.Errno { return when(n < lo || n > hi, api.ErrRange) }
}

// atMost returns the check of a number that is at most limit in size.
func atMost(limit int) func(int) api.Errno {
	return from(-limit, limit)
}

func checkSignal(x []int) api.Errno {
	return firstError(
		when(len(x) > api.MaxJoinSignal, api.ErrLarge),
		checkEach(x, atMost(api.MaxSample)))
}

func checkLag(lag int) api.Errno {
	return atMost(api.MaxJoinLag)(lag)
}

func checkLength(length int) api.Errno {
	return from(1, api.MaxJoinSignal)(length)
}

func size(n int) int {
	return max(n, -n)
}
