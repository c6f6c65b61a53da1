// Package transfer is chapter 1: transfers in checked blocks. See shared/doc/01-transfer.md.
package transfer

import "lacquer/api"

// firstError lets a function list its errors in the order in which they count.
func firstError(l ...api.Errno) api.Errno {
	for _, e := range l {
		if e != api.OK {
			return e
		}
	}
	return api.OK
}

// when returns e if it applies.
func when(applies bool, e api.Errno) api.Errno {
	if applies {
		return e
	}
	return api.OK
}

// checkEach returns the error of the first item that has one.
func checkEach[T any](l []T, check func(T) api.Errno) api.Errno {
	for _, item := range l {
		if e := check(item); e != api.OK {
			return e
		}
	}
	return api.OK
}

func checkRange(n, lo, hi int) api.Errno {
	return when(n < lo || n > hi, api.ErrRange)
}

// from returns the check of a number from lo to hi.
func from(lo, hi int) func(int) api.Errno {
	return func(n int) api.Errno { return checkRange(n, lo, hi) }
}

func checkSignal(x []int) api.Errno {
	return checkEach(x, from(-api.MaxSample, api.MaxSample))
}

func checkSamples(x [8]int) api.Errno {
	return checkSignal(x[:])
}

func checkChannel(channel int) api.Errno {
	return checkRange(channel, 0, api.TransferChannels-1)
}

func checkCounter(counter int) api.Errno {
	return checkRange(counter, 0, api.MaxTransferCounter)
}
