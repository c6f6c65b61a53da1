package resample

import (
	"iter"

	"lacquer/api"
	"lacquer/speed"
)

// CheckRules returns the error of rules (P4.1).
func CheckRules(r api.ResampleRules) api.Errno {
	_, degreeError := interpolationOf(r.Degree)
	e := firstError(
		when(r.Kind < 0 || r.Kind >= api.ResampleKinds, api.ErrKind),
		degreeError)
	switch {
	case e != api.OK:
		return e
	case r.Kind == api.ResampleRatio:
		return checkRatio(r)
	default:
		return checkMap(r)
	}
}

func checkRatio(r api.ResampleRules) api.Errno {
	return firstError(
		checkEach([]int{r.Num, r.Den}, from(1, api.MaxResampleRatio)),
		when(r.Step != 0 || len(r.Map.Nodes) > 0, api.ErrForm))
}

func checkMap(r api.ResampleRules) api.Errno {
	_, e := speed.CheckMap(r.Map)
	return firstError(
		e,
		from(1, api.MaxTick)(r.Step),
		when(r.Num != 0 || r.Den != 0, api.ErrForm))
}

// PositionsOf returns the positions of the outputs of a signal with count samples (P4.1).
func PositionsOf(r api.ResampleRules, count int) ([]int, api.Errno) {
	e := firstError(CheckRules(r), from(0, api.MaxResampleSamples)(count))
	if e != api.OK {
		return nil, e
	}
	last := lastPosition(count)
	var positions []int
	for position := range outputsOf(r) {
		if position > last {
			break
		}
		if len(positions) == api.MaxResampleOutputs {
			return nil, api.ErrLarge
		}
		positions = append(positions, position)
	}
	return positions, api.OK
}

// Resampled returns all outputs of a signal (P4.2).
func Resampled(r api.ResampleRules, x []int) ([]int, api.Errno) {
	if e := firstError(CheckRules(r), checkSignal(x)); e != api.OK {
		return nil, e
	}
	positions, positionsError := PositionsOf(r, len(x))
	p, degreeError := interpolationOf(r.Degree)
	if e := firstError(positionsError, degreeError); e != api.OK {
		return nil, e
	}
	var y []int
	for _, position := range positions {
		y = append(y, p.outputAt(x, position))
	}
	return y, api.OK
}

// lastPosition returns the fractional position of the last of count samples: one below 0 if there are none.
func lastPosition(count int) int {
	return api.Grid * (count - 1)
}

// outputsOf yields the positions of the outputs of a signal without an end. By a ratio there is always another one.
func outputsOf(r api.ResampleRules) iter.Seq[int] {
	return func(yield func(int) bool) {
		for k := 0; ; k++ {
			position, e := outputPosition(r, k)
			if e != api.OK || !yield(position) {
				return
			}
		}
	}
}

// outputPosition returns the position of an output. By a map there is an error if its time is later than that of the last node.
func outputPosition(r api.ResampleRules, output int) (int, api.Errno) {
	if r.Kind == api.ResampleRatio {
		return api.Grid * output * r.Num / r.Den, api.OK
	}
	position, e := speed.PositionAt(r.Map, r.Map.Nodes[0].Time+output*r.Step)
	return position.Lo, e
}
