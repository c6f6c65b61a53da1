package spectrum_test

import (
	"testing"

	"lacquer/api"
	"lacquer/spectrum"
)

// example is the edits of the document's example 8.
func example() []api.SpectrumEdit {
	return edits(gain(1, 1, 0, 4, 8), copied(2, 2, 0, 4, 1), gain(2, 2, 0, 4, 32))
}

// P6.4
func TestCheckEdit(t *testing.T) {
	for _, e := range []api.SpectrumEdit{
		{}, gain(0, 0, 0, 0, 0), gain(0, 100, 0, 4, 32), gain(100, 100, 4, 4, 16), gain(3, 4, 1, 2, 7),
		copied(0, 0, 0, 0, 0), copied(0, 100, 0, 4, 100), copied(100, 100, 4, 4, 33), copied(5, 6, 1, 1, 5),
	} {
		expect(t, e, shown(spectrum.CheckEdit(e)), shown(api.OK))
	}
	for _, bad := range editsWithErrors() {
		expect(t, bad, shown(spectrum.CheckEdit(bad.edit)), shown(bad.e))
	}
}

// P6.4
func TestCheckEdits(t *testing.T) {
	for _, l := range [][]api.SpectrumEdit{nil, edits(gain(0, 100, 0, 4, 32)), example(), edits(copied(0, 0, 0, 0, 0), gain(0, 0, 0, 0, 0), gain(0, 0, 0, 0, 0), gain(0, 0, 0, 0, 0))} {
		expect(t, l, shown(spectrum.CheckEdits(l)), shown(0, api.OK))
	}
	for _, bad := range listsWithErrors() {
		expect(t, bad, shown(spectrum.CheckEdits(bad.edits)), shown(bad.index, bad.e))
	}
}

// P6.4, example 8, and the edge cases of copies
func TestCellOf(t *testing.T) {
	for _, v := range []struct {
		l          []api.SpectrumEdit
		frame, bin int
		want       api.SpectrumCell
	}{
		{example(), 2, 0, cell(1, 1, 1)},
		{example(), 2, 4, cell(1, 1, 1)},
		{example(), 1, 0, cell(1, 1, 2)},
		{example(), 0, 0, itself(0)},
		{example(), 3, 0, itself(3)},
		{nil, 0, 0, itself(0)},
		{nil, 100, 4, itself(100)},
		{edits(gain(0, 5, 1, 2, 0)), 3, 1, cell(3, 0, 1)},
		{edits(gain(0, 5, 1, 2, 0)), 3, 0, itself(3)},
		{edits(gain(0, 5, 1, 2, 0)), 3, 3, itself(3)},
		{edits(gain(0, 5, 1, 2, 0)), 6, 1, itself(6)},
		{edits(gain(0, 5, 1, 2, 6)), 5, 2, cell(5, 3, 8)},
		{edits(gain(0, 5, 1, 2, 16)), 5, 2, itself(5)},
		{edits(gain(0, 5, 1, 2, 8), gain(0, 5, 1, 2, 32)), 5, 2, itself(5)},
		{edits(gain(0, 0, 0, 0, 1), gain(0, 0, 0, 0, 1), gain(0, 0, 0, 0, 1), gain(0, 0, 0, 0, 1)), 0, 0, cell(0, 1, 65536)},
		{edits(gain(0, 0, 0, 0, 32), gain(0, 0, 0, 0, 32), gain(0, 0, 0, 0, 32), gain(0, 0, 0, 0, 32)), 0, 0, cell(0, 16, 1)},
		{edits(gain(0, 0, 0, 0, 31), gain(0, 0, 0, 0, 29), gain(0, 0, 0, 0, 27), gain(0, 0, 0, 0, 25)), 0, 0, cell(0, 606825, 65536)},
		// A copy reads what was there before it.
		{edits(copied(1, 5, 0, 4, 0)), 1, 0, itself(0)},
		{edits(copied(1, 5, 0, 4, 0)), 2, 0, itself(1)},
		{edits(copied(1, 5, 0, 4, 0)), 5, 0, itself(4)},
		{edits(copied(1, 5, 0, 4, 3)), 1, 0, itself(3)},
		{edits(copied(1, 5, 0, 4, 3)), 5, 0, itself(7)},
		{edits(copied(1, 5, 0, 4, 1)), 4, 0, itself(4)},
		{edits(copied(1, 5, 0, 4, 0), copied(1, 5, 0, 4, 0)), 1, 0, itself(0)},
		{edits(copied(1, 5, 0, 4, 0), copied(1, 5, 0, 4, 0)), 2, 0, itself(0)},
		{edits(copied(1, 5, 0, 4, 0), copied(1, 5, 0, 4, 0)), 5, 0, itself(3)},
		// It may read frames that no signal has.
		{edits(copied(0, 100, 0, 4, 100)), 100, 0, itself(200)},
		{edits(copied(0, 100, 0, 4, 100), copied(0, 0, 0, 4, 100)), 0, 0, itself(200)},
		{edits(gain(0, 100, 0, 4, 8), copied(0, 100, 0, 4, 100)), 0, 0, cell(100, 1, 2)},
		{edits(gain(0, 100, 0, 4, 8), copied(0, 100, 0, 4, 100)), 1, 0, itself(101)},
		{edits(copied(2, 2, 0, 4, 1), gain(1, 1, 0, 4, 8)), 2, 0, itself(1)},
	} {
		expect(t, v, shown(spectrum.CellOf(v.l, v.frame, v.bin)), shown(v.want, api.OK))
	}
}

// P6.4
func TestErrorsOfCellOf(t *testing.T) {
	for _, n := range beyond(0, 100) {
		for _, k := range append(beyond(0, 4), 0, 4) {
			expect(t, n, shown(spectrum.CellOf(example(), n, k)), shown(api.SpectrumCell{}, api.ErrRange))
		}
	}
	for _, k := range beyond(0, 4) {
		expect(t, k, shown(spectrum.CellOf(nil, 0, k)), shown(api.SpectrumCell{}, api.ErrRange))
	}
	for _, bad := range listsWithErrors() {
		for _, n := range []int{0, -1, 101} {
			expect(t, bad, shown(spectrum.CellOf(bad.edits, n, 0)), shown(api.SpectrumCell{}, bad.e))
		}
	}
}

// P6.4: by the document's definition
func TestCellsOfSomeEdits(t *testing.T) {
	d := dice(13)
	for range 200 {
		l := someEdits(d, []int{3, 10, 100}[d.IntN(3)])
		for frame, want := range cellsAfter(l) {
			for k := range 5 {
				if frame <= 100 {
					expect(t, l, shown(spectrum.CellOf(l, frame, k)), shown(want[k], api.OK))
				}
			}
		}
	}
}

// P6.13
func TestGains(t *testing.T) {
	d := dice(14)
	for range 200 {
		l := someEdits(d, 5)
		for i := range l {
			if l[i].Kind == api.SpectrumGain {
				l[i].Number = between(d, 0, 16)
			}
		}
		for frame := range 101 {
			for k := range 5 {
				c, e := spectrum.CellOf(l, frame, k)
				if e != api.OK || c.Gain.Num < 0 || c.Gain.Num > c.Gain.Den {
					t.Error(l, frame, k, c, e)
				}
			}
		}
	}
}

// touched returns the ranges of positions that edits may change by the document's definition.
func touched(l []api.SpectrumEdit, length int) []api.Range {
	table := cellsAfter(l)
	var ranges []api.Range
	for i := range length {
		mayChange := false
		for _, frame := range []int{i / 4, i/4 + 1} {
			for k := range 5 {
				mayChange = mayChange || table[frame][k] != itself(frame)
			}
		}
		switch last := len(ranges) - 1; {
		case !mayChange:
		case last >= 0 && ranges[last].Hi == i-1:
			ranges[last].Hi = i
		default:
			ranges = append(ranges, api.Range{Lo: i, Hi: i})
		}
	}
	return ranges
}

// ranges returns ranges: for each its ends.
func ranges(ends ...int) []api.Range {
	var l []api.Range
	for i := 0; i < len(ends); i += 2 {
		l = append(l, api.Range{Lo: ends[i], Hi: ends[i+1]})
	}
	return l
}

// P6.5, example 9
func TestTouchedBy(t *testing.T) {
	for _, v := range []struct {
		l      []api.SpectrumEdit
		length int
		want   []api.Range
	}{
		{edits(gain(1, 1, 0, 4, 8)), 12, ranges(0, 7)},
		{edits(gain(0, 0, 0, 4, 8)), 12, ranges(0, 3)},
		{edits(gain(0, 0, 0, 4, 8)), 1, ranges(0, 0)},
		{edits(gain(1, 1, 3, 3, 8)), 1, ranges(0, 0)},
		{edits(gain(2, 2, 3, 3, 8)), 1, nil},
		{edits(gain(2, 2, 3, 3, 8)), 4, nil},
		{edits(gain(2, 2, 3, 3, 8)), 5, ranges(4, 4)},
		{edits(gain(2, 2, 3, 3, 8)), 8, ranges(4, 7)},
		{edits(gain(2, 2, 3, 3, 8)), 400, ranges(4, 11)},
		{edits(gain(0, 100, 0, 4, 0)), 400, ranges(0, 399)},
		{edits(gain(100, 100, 0, 4, 0)), 400, ranges(396, 399)},
		{edits(gain(100, 100, 0, 4, 0)), 396, nil},
		{edits(gain(100, 100, 0, 4, 0)), 397, ranges(396, 396)},
		{edits(gain(0, 100, 0, 4, 16)), 400, nil},
		{edits(gain(0, 9, 0, 4, 8), gain(0, 9, 0, 4, 32)), 20, nil},
		{edits(gain(0, 9, 0, 4, 8), gain(0, 3, 0, 4, 32)), 30, ranges(12, 29)},
		{edits(gain(0, 9, 0, 4, 8), gain(0, 9, 0, 3, 32)), 30, ranges(0, 29)},
		{edits(copied(3, 5, 0, 4, 3)), 30, nil},
		{edits(copied(3, 3, 0, 4, 90)), 30, ranges(8, 15)},
		// Two ranges that touch are one, and so are two that overlap.
		{edits(gain(1, 1, 0, 0, 8), gain(3, 3, 1, 1, 8)), 40, ranges(0, 15)},
		{edits(gain(1, 1, 0, 0, 8), gain(2, 2, 1, 1, 8)), 40, ranges(0, 11)},
		{edits(gain(4, 4, 1, 1, 8), gain(1, 1, 0, 0, 8)), 40, ranges(0, 7, 12, 19)},
		{example(), 12, ranges(0, 11)},
		{nil, 400, nil},
		{edits(gain(0, 100, 0, 4, 0)), 0, nil},
	} {
		expect(t, v, shown(spectrum.TouchedBy(v.l, v.length)), shown(v.want, api.OK))
	}
	for _, length := range beyond(0, 400) {
		expect(t, length, shown(spectrum.TouchedBy(example(), length)), shown([]api.Range{}, api.ErrRange))
	}
	for _, bad := range listsWithErrors() {
		for _, length := range []int{12, -1, 401} {
			expect(t, bad, shown(spectrum.TouchedBy(bad.edits, length)), shown([]api.Range{}, bad.e))
		}
	}
}

// P6.5: by the document's definition
func TestTouchedBySomeEdits(t *testing.T) {
	d := dice(15)
	for range 1000 {
		frames := []int{3, 20, 100}[d.IntN(3)]
		l, length := someEdits(d, frames), between(d, 0, min(400, 4*frames+20))
		expect(t, l, shown(spectrum.TouchedBy(l, length)), shown(touched(l, length), api.OK))
	}
}
