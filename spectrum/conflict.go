package spectrum

import (
	"slices"

	"lacquer/api"
)

// Conflicts returns the pairs of edits whose order matters (P6.6).
func Conflicts(l []api.SpectrumEdit) ([][2]int, api.Errno) {
	if e := checkEdits(l); e != api.OK {
		return nil, e
	}
	var pairs [][2]int
	for i, first := range l {
		for j := i + 1; j < len(l); j++ {
			if conflict(first, l[j]) {
				pairs = append(pairs, [2]int{i, j})
			}
		}
	}
	return pairs, api.OK
}

// TakenBack returns edits without one of them, or the index of the first later edit that conflicts with it (P6.6).
func TakenBack(l []api.SpectrumEdit, index int) ([]api.SpectrumEdit, int, api.Errno) {
	if e := firstError(checkEdits(l), when(index < 0 || index >= len(l), api.ErrMissing)); e != api.OK {
		return nil, 0, e
	}
	for later := index + 1; later < len(l); later++ {
		if conflict(l[index], l[later]) {
			return nil, later, api.ErrBusy
		}
	}
	return slices.Concat(l[:index], l[index+1:]), 0, api.OK
}

// conflict tells whether the order of two edits matters.
func conflict(a, b api.SpectrumEdit) bool {
	if a.Kind != api.SpectrumCopy && b.Kind != api.SpectrumCopy {
		return false
	}
	return meet(a.Region, b.Region) || reads(a, b.Region) || reads(b, a.Region)
}

// reads tells whether an edit is a copy that reads a cell of a region.
func reads(e api.SpectrumEdit, region api.SpectrumRegion) bool {
	length := e.Region.Frames.Hi - e.Region.Frames.Lo
	read := api.SpectrumRegion{
		Frames: api.Range{Lo: e.Number, Hi: e.Number + length},
		Bins:   e.Region.Bins,
	}
	return e.Kind == api.SpectrumCopy && meet(read, region)
}

// meet tells whether two regions have a cell in common.
func meet(a, b api.SpectrumRegion) bool {
	return overlap(a.Frames, b.Frames) && overlap(a.Bins, b.Bins)
}

func overlap(a, b api.Range) bool {
	return a.Lo <= b.Hi && b.Lo <= a.Hi
}
