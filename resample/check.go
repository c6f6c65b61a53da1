// Package resample is chapter 4: resampling, filters and equalization. See shared/doc/04-resample.md.
package resample

import "lacquer/api"

// firstError lets a function list its errors in the order in which they count.
func firstError(l ...api.Errno) api.Errno {
	for _, e := range l {
		if e != api.OK {
			return e
		}
	}
	return api.OK
}

// when returns e if it applies.
func when(applies bool, e api.Errno) api.Errno {
	if applies {
		return e
	}
	return api.OK
}

// checkEach returns the error of the first number that has one.
func checkEach(l []int, check func(int) api.Errno) api.Errno {
	for _, n := range l {
		if e := check(n); e != api.OK {
			return e
		}
	}
	return api.OK
}

// from returns the check of a number from lo to hi.
func from(lo, hi int) func(int) api.Errno {
	return func(n int) api.Errno { return when(n < lo || n > hi, api.ErrRange) }
}

// atMost returns the check of a number that is at most limit in size.
func atMost(limit int) func(int) api.Errno {
	return from(-limit, limit)
}

// checkNumbers returns the error of as many numbers as a signal may have, which are at most limit in size.
func checkNumbers(l []int, limit int) api.Errno {
	return firstError(
		when(len(l) > api.MaxResampleSamples, api.ErrLarge),
		checkEach(l, atMost(limit)))
}

func checkSignal(x []int) api.Errno {
	return checkNumbers(x, api.MaxSample)
}

func checkAmplitude(amplitude int) api.Errno {
	return from(0, api.MaxSample)(amplitude)
}

func checkFraction(fraction int) api.Errno {
	return from(0, api.Grid-1)(fraction)
}
