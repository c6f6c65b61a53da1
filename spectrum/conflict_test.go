package spectrum_test

import (
	"slices"
	"testing"

	"lacquer/api"
	"lacquer/spectrum"
)

// cellsOf returns the cells of a region whose frames begin at from.
func cellsOf(r api.SpectrumRegion, from int) map[[2]int]bool {
	l := map[[2]int]bool{}
	for f := r.Frames.Lo; f <= r.Frames.Hi; f++ {
		for k := r.Bins.Lo; k <= r.Bins.Hi; k++ {
			l[[2]int{f - r.Frames.Lo + from, k}] = true
		}
	}
	return l
}

func haveCommon(a, b map[[2]int]bool) bool {
	for c := range a {
		if b[c] {
			return true
		}
	}
	return false
}

// conflict is the document's definition.
func conflict(a, b api.SpectrumEdit) bool {
	written := func(e api.SpectrumEdit) map[[2]int]bool { return cellsOf(e.Region, e.Region.Frames.Lo) }
	read := func(e api.SpectrumEdit) map[[2]int]bool {
		if e.Kind == api.SpectrumGain {
			return nil
		}
		return cellsOf(e.Region, e.Number)
	}
	if a.Kind == api.SpectrumGain && b.Kind == api.SpectrumGain {
		return false
	}
	return haveCommon(written(a), written(b)) || haveCommon(written(a), read(b)) || haveCommon(read(a), written(b))
}

// P6.6, example 8, and the edge cases
func TestConflicts(t *testing.T) {
	for _, v := range []struct {
		l    []api.SpectrumEdit
		want [][2]int
	}{
		{example(), [][2]int{{0, 1}, {1, 2}}},
		{nil, nil},
		{edits(copied(0, 5, 0, 4, 3)), nil},
		// Gains never conflict.
		{edits(gain(0, 5, 0, 4, 8), gain(0, 5, 0, 4, 0), gain(5, 5, 1, 1, 32)), nil},
		// A gain that changes nothing, and a copy that does, either.
		{edits(gain(0, 5, 0, 4, 16), copied(3, 3, 2, 2, 50)), [][2]int{{0, 1}}},
		{edits(gain(3, 3, 2, 2, 8), copied(0, 5, 0, 4, 0)), [][2]int{{0, 1}}},
		// Both write a cell.
		{edits(gain(0, 5, 0, 4, 8), copied(5, 9, 4, 4, 50)), [][2]int{{0, 1}}},
		{edits(gain(0, 5, 0, 4, 8), copied(6, 9, 4, 4, 50)), nil},
		{edits(gain(0, 5, 0, 3, 8), copied(5, 9, 4, 4, 50)), nil},
		{edits(copied(5, 9, 4, 4, 50), copied(9, 9, 4, 4, 60)), [][2]int{{0, 1}}},
		{edits(copied(5, 9, 4, 4, 50), copied(10, 11, 4, 4, 60)), nil},
		// One reads what the other one writes.
		{edits(gain(50, 50, 2, 2, 8), copied(5, 9, 0, 4, 46)), [][2]int{{0, 1}}},
		{edits(gain(50, 50, 2, 2, 8), copied(5, 9, 0, 4, 45)), nil},
		{edits(gain(50, 50, 2, 2, 8), copied(5, 9, 0, 4, 50)), [][2]int{{0, 1}}},
		{edits(gain(50, 50, 2, 2, 8), copied(5, 9, 0, 4, 51)), nil},
		{edits(gain(50, 50, 2, 2, 8), copied(5, 9, 3, 4, 50)), nil},
		{edits(copied(5, 9, 0, 4, 46), gain(50, 50, 2, 2, 8)), [][2]int{{0, 1}}},
		{edits(copied(1, 2, 0, 4, 10), copied(11, 11, 4, 4, 50)), [][2]int{{0, 1}}},
		{edits(copied(11, 11, 4, 4, 50), copied(1, 2, 0, 4, 10)), [][2]int{{0, 1}}},
		// Two copies that read the same cells and write others do not conflict.
		{edits(copied(1, 2, 0, 4, 10), copied(3, 4, 0, 4, 10)), nil},
		{edits(copied(1, 2, 0, 4, 10), copied(3, 4, 0, 4, 11), copied(5, 6, 0, 4, 10)), nil},
		{edits(copied(0, 1, 0, 4, 5), copied(0, 1, 0, 4, 5), copied(0, 1, 0, 4, 5), copied(1, 1, 0, 4, 5)), [][2]int{{0, 1}, {0, 2}, {0, 3}, {1, 2}, {1, 3}, {2, 3}}},
		{edits(gain(1, 1, 0, 4, 8), gain(2, 2, 0, 4, 8), gain(3, 3, 0, 4, 8), copied(2, 3, 0, 4, 9)), [][2]int{{1, 3}, {2, 3}}},
		{edits(gain(100, 100, 0, 4, 8), copied(0, 100, 0, 4, 100)), [][2]int{{0, 1}}},
		{edits(gain(100, 100, 0, 4, 8), copied(0, 99, 0, 4, 100)), [][2]int{{0, 1}}},
		{edits(gain(99, 99, 0, 4, 8), copied(0, 98, 0, 4, 100)), nil},
	} {
		expect(t, v, shown(spectrum.Conflicts(v.l)), shown(v.want, api.OK))
	}
	for _, bad := range listsWithErrors() {
		expect(t, bad, shown(spectrum.Conflicts(bad.edits)), shown([][2]int{}, bad.e))
	}
}

// P6.6, example 8
func TestTakenBack(t *testing.T) {
	l := example()
	expect(t, 0, shown(spectrum.TakenBack(l, 0)), shown([]api.SpectrumEdit{}, 1, api.ErrBusy))
	expect(t, 1, shown(spectrum.TakenBack(l, 1)), shown([]api.SpectrumEdit{}, 2, api.ErrBusy))
	expect(t, 2, shown(spectrum.TakenBack(l, 2)), shown(l[:2], 0, api.OK))
	// Only later edits matter, and of several the first one.
	l = edits(copied(1, 2, 0, 4, 9), gain(50, 51, 0, 4, 8), gain(2, 2, 0, 4, 8), gain(1, 1, 0, 4, 8))
	expect(t, 0, shown(spectrum.TakenBack(l, 0)), shown([]api.SpectrumEdit{}, 2, api.ErrBusy))
	expect(t, 1, shown(spectrum.TakenBack(l, 1)), shown(edits(l[0], l[2], l[3]), 0, api.OK))
	expect(t, 2, shown(spectrum.TakenBack(l, 2)), shown(edits(l[0], l[1], l[3]), 0, api.OK))
	expect(t, 3, shown(spectrum.TakenBack(l, 3)), shown(l[:3], 0, api.OK))
	expect(t, "one", shown(spectrum.TakenBack(l[:1], 0)), shown([]api.SpectrumEdit{}, 0, api.OK))
	expect(t, "none", shown(spectrum.TakenBack(nil, 0)), shown([]api.SpectrumEdit{}, 0, api.ErrMissing))
	for _, index := range beyond(0, 3) {
		expect(t, index, shown(spectrum.TakenBack(l, index)), shown([]api.SpectrumEdit{}, 0, api.ErrMissing))
	}
	for _, bad := range listsWithErrors() {
		for _, index := range []int{0, 1, -1, 9} {
			expect(t, bad, shown(spectrum.TakenBack(bad.edits, index)), shown([]api.SpectrumEdit{}, 0, bad.e))
		}
	}
}

// P6.6: by the document's definition
func TestConflictsOfSomeEdits(t *testing.T) {
	d := dice(19)
	var counts [2]int
	for range 1000 {
		l := someEdits(d, []int{4, 20, 100}[d.IntN(3)])
		var want [][2]int
		first := map[int]int{}
		for i := range l {
			for j := i + 1; j < len(l); j++ {
				if conflict(l[i], l[j]) {
					want = append(want, [2]int{i, j})
					if first[i] == 0 {
						first[i] = j
					}
				}
			}
		}
		expect(t, l, shown(spectrum.Conflicts(l)), shown(want, api.OK))
		for i := range l {
			got := shown(spectrum.TakenBack(l, i))
			if first[i] > 0 {
				counts[0]++
				expect(t, l, got, shown([]api.SpectrumEdit{}, first[i], api.ErrBusy))
			} else {
				counts[1]++
				expect(t, l, got, shown(slices.Delete(slices.Clone(l), i, i+1), 0, api.OK))
			}
		}
	}
	if counts[0] < 100 || counts[1] < 100 {
		t.Error("too few conflict, or are taken back:", counts)
	}
}

// expectEqual expects that all cells after two slices of edits are the same, and so is what is rendered.
func expectEqual(t *testing.T, a, b []api.SpectrumEdit, x []int) {
	t.Helper()
	for frame := range 101 {
		for k := range 5 {
			want, e := spectrum.CellOf(a, frame, k)
			expect(t, a, shown(spectrum.CellOf(b, frame, k)), shown(want, e))
		}
	}
	want, e := spectrum.Rendered(a, x)
	expect(t, a, shown(spectrum.Rendered(b, x)), shown(want, e))
	touched, e := spectrum.TouchedBy(a, len(x))
	expect(t, a, shown(spectrum.TouchedBy(b, len(x))), shown(touched, e))
}

// P6.12: neighbouring edits
func TestNeighboursExchanged(t *testing.T) {
	d := dice(20)
	exchanged, gains := 0, 0
	for range 600 {
		l, x := someEdits(d, 6), someNumbers(d, between(d, 0, 30), 2000)
		conflicts, e := spectrum.Conflicts(l)
		expect(t, l, shown(e), shown(api.OK))
		for i := range max(0, len(l)-1) {
			if slices.Contains(conflicts, [2]int{i, i + 1}) {
				continue
			}
			exchanged++
			if l[i].Kind == api.SpectrumGain && l[i+1].Kind == api.SpectrumGain {
				gains++
			}
			m := slices.Clone(l)
			m[i], m[i+1] = m[i+1], m[i]
			expectEqual(t, l, m, x)
		}
	}
	if exchanged-gains < 50 || gains < 50 {
		t.Error("too few edits are exchanged:", exchanged, gains)
	}
}

// P6.12: an edit that is taken back
func TestTakenBackFromTheEnd(t *testing.T) {
	d := dice(21)
	moved := 0
	for range 600 {
		l, x := someEdits(d, 6), someNumbers(d, between(d, 0, 30), 2000)
		for i := range l {
			rest, _, e := spectrum.TakenBack(l, i)
			if e != api.OK || i == len(l)-1 {
				continue
			}
			moved++
			expectEqual(t, l, append(slices.Clone(rest), l[i]), x)
		}
	}
	if moved < 100 {
		t.Error("too few edits are moved:", moved)
	}
}
