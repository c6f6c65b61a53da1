// Package spectrum is chapter 6: spectra and their edits. See shared/doc/06-spectrum.md.
package spectrum

import "lacquer/api"

// firstError lets a function list its errors in the order in which they count.
func firstError(l ...api.Errno) api.Errno {
	for _, e := range l {
		if e != api.OK {
			return e
		}
	}
	return api.OK
}

// when returns e if it applies.
func when(applies bool, e api.Errno) api.Errno {
	if applies {
		return e
	}
	return api.OK
}

// checkEach returns the error of the first number that has one.
func checkEach(l []int, check func(int) api.Errno) api.Errno {
	for _, n := range l {
		if e := check(n); e != api.OK {
			return e
		}
	}
	return api.OK
}

// from returns the check of a number from lo to hi.
func from(lo, hi int) func(int) api.Errno {
	return func(n int) api.Errno { return when(n < lo || n > hi, api.ErrRange) }
}

// atMost returns the check of a number that is at most limit in size.
func atMost(limit int) func(int) api.Errno {
	return from(-limit, limit)
}

func checkSamples(x []int) api.Errno {
	return checkEach(x, atMost(api.MaxSample))
}

func checkSignal(x []int) api.Errno {
	return firstError(
		when(len(x) > api.MaxSpectrumSignal, api.ErrLarge),
		checkSamples(x))
}

func checkLength(length int) api.Errno {
	return from(0, api.MaxSpectrumSignal)(length)
}

func checkFrame(frame int) api.Errno {
	return from(0, api.MaxSpectrumFrames-1)(frame)
}

func checkBin(bin int) api.Errno {
	return from(0, api.SpectrumBins-1)(bin)
}

func checkRegion(r api.SpectrumRegion) api.Errno {
	return firstError(
		checkEach([]int{r.Frames.Lo, r.Frames.Hi}, checkFrame),
		checkEach([]int{r.Bins.Lo, r.Bins.Hi}, checkBin),
		when(r.Frames.Lo > r.Frames.Hi || r.Bins.Lo > r.Bins.Hi, api.ErrOrder))
}
