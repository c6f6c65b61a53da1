// Package speed is chapter 3: maps of time and evidence of speed. See shared/doc/03-speed.md.
package speed

import "lacquer/api"

// firstError lets a function list its errors in the order in which they count.
func firstError(l ...api.Errno) api.Errno {
	for _, e := range l {
		if e != api.OK {
			return e
		}
	}
	return api.OK
}

// when returns e if it applies.
func when(applies bool, e api.Errno) api.Errno {
	if applies {
		return e
	}
	return api.OK
}

// encloses tells whether no number of a range is outside another one.
func encloses(outer, inner api.Range) bool {
	return outer.Lo <= inner.Lo && inner.Hi <= outer.Hi
}

// checkEnds returns the error of a range whose ends are to be from lo to hi.
func checkEnds(r api.Range, lo, hi int) api.Errno {
	return when(r.Lo < lo || r.Lo > hi || r.Hi < lo || r.Hi > hi, api.ErrRange)
}

func checkOrder(r api.Range) api.Errno {
	return when(r.Lo > r.Hi, api.ErrOrder)
}

func checkPosition(position int) api.Errno {
	return when(position < 0 || position > api.MaxPosition, api.ErrRange)
}

func checkTime(time int) api.Errno {
	return when(time < 0 || time > api.MaxTick, api.ErrRange)
}
