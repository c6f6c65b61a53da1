package spectrum_test

import (
	"slices"
	"testing"

	"lacquer/api"
	"lacquer/spectrum"
)

// unchanged makes a call twice, spoils its first result in between, and expects that neither the arguments nor the second result differ (R3, R4).
func unchanged[T any](t *testing.T, what string, arguments any, call func() (T, api.Errno), spoil func(T)) {
	t.Helper()
	before := shown(arguments)
	first, e := call()
	want := shown(first, e)
	if e != api.OK {
		t.Error(what, e)
	}
	spoil(first)
	expect(t, what, shown(call()), want)
	expect(t, what, shown(arguments), before)
}

// spoilList overwrites a list, and the room behind it, which belongs to it, too.
func spoilList[T any](other T) func([]T) {
	return func(l []T) {
		for i := range l {
			l[i] = other
		}
		_ = append(l, other)
	}
}

// R3, R4
func TestSignalsAreNotShared(t *testing.T) {
	// x has room behind its samples that belongs to all.
	all := []int{1, 2, 3, 4, 5, 6, 7, 8, 9}
	x := all[:5]
	spoil := spoilList(-1)
	for _, l := range [][]api.SpectrumEdit{nil, edits(gain(0, 2, 0, 4, 16)), example()} {
		arguments := []any{all, l}
		unchanged(t, "rendered", arguments, func() ([]int, api.Errno) { return spectrum.Rendered(l, x) }, spoil)
		unchanged(t, "touched", arguments, func() ([]api.Range, api.Errno) { return spectrum.TouchedBy(l, 5) }, spoilList(api.Range{Lo: -1}))
	}
	for _, e := range edits(gain(0, 2, 0, 4, 16), copied(0, 2, 1, 4, 1)) {
		unchanged(t, "edited", all, func() ([]int, api.Errno) { return spectrum.Edited(e, x) }, spoil)
	}
	unchanged(t, "frame", all, func() ([8]int, api.Errno) { return spectrum.FrameAt(x, 1) }, func([8]int) {})
	unchanged(t, "strongest", all, func() ([2]int, api.Errno) { return spectrum.StrongestIn(x, region(0, 2, 1, 3)) }, func([2]int) {})
	frames := [][8]int{{0, 0, 0, 0, 1, 2, 3, 4}, {1, 2, 3, 4, 5}, {5}, {6}}
	unchanged(t, "rebuilt", frames, func() ([]int, api.Errno) { return spectrum.Rebuilt(frames[:3], 5) }, spoil)
}

// R3, R4
func TestEditsAreNotShared(t *testing.T) {
	// l has room behind its edits that belongs to all.
	all := edits(gain(1, 1, 0, 4, 8), gain(2, 2, 0, 4, 7), gain(3, 3, 0, 4, 6), gain(4, 4, 0, 4, 5))
	l := all[:3]
	other := spoilList(gain(9, 9, 1, 1, 9))
	for index := range l {
		unchanged(t, "taken back", all, func() ([]api.SpectrumEdit, api.Errno) {
			rest, n, e := spectrum.TakenBack(l, index)
			expect(t, index, shown(n), shown(0))
			return rest, e
		}, other)
	}
	m := example()
	unchanged(t, "conflicts", m, func() ([][2]int, api.Errno) { return spectrum.Conflicts(m) }, spoilList([2]int{-1, -1}))
	unchanged(t, "cell", m, func() (api.SpectrumCell, api.Errno) { return spectrum.CellOf(m, 2, 0) }, func(api.SpectrumCell) {})
	unchanged(t, "check", m, func() (int, api.Errno) { return spectrum.CheckEdits(m) }, func(int) {})
}

// R4: transforms of the same samples are always the same.
func TestTransformsAreAlwaysTheSame(t *testing.T) {
	x := [8]int{1, -2, 3, 4, 5, 6, 7, maxSample}
	for range 3 {
		unchanged(t, "eight", x, func() ([8]api.SpectrumBin, api.Errno) { return spectrum.EightOf(x) }, func([8]api.SpectrumBin) {})
		unchanged(t, "from eight", x, func() ([8]int, api.Errno) { return spectrum.FromEight(eight(x)) }, func([8]int) {})
	}
}

// R5
func TestNilAndEmptyAreEqual(t *testing.T) {
	for _, x := range [][]int{nil, {}} {
		for _, l := range [][]api.SpectrumEdit{nil, {}, example()} {
			expect(t, l, shown(spectrum.Rendered(l, x)), shown([]int{}, api.OK))
		}
		expect(t, "edited", shown(spectrum.Edited(gain(0, 1, 0, 4, 8), x)), shown([]int{}, api.OK))
		expect(t, "frame", shown(spectrum.FrameAt(x, 0)), shown([8]int{}, api.ErrMissing))
		expect(t, "strongest", shown(spectrum.StrongestIn(x, region(0, 0, 0, 4))), shown([2]int{}, api.ErrNone))
	}
	for _, l := range [][]api.SpectrumEdit{nil, {}} {
		expect(t, "rendered", shown(spectrum.Rendered(l, []int{7, 8})), shown([]int{7, 8}, api.OK))
		expect(t, "check", shown(spectrum.CheckEdits(l)), shown(0, api.OK))
		expect(t, "cell", shown(spectrum.CellOf(l, 7, 1)), shown(itself(7), api.OK))
		expect(t, "touched", shown(spectrum.TouchedBy(l, 400)), shown([]api.Range{}, api.OK))
		expect(t, "conflicts", shown(spectrum.Conflicts(l)), shown([][2]int{}, api.OK))
		expect(t, "taken back", shown(spectrum.TakenBack(l, 0)), shown([]api.SpectrumEdit{}, 0, api.ErrMissing))
	}
	for _, frames := range [][][8]int{nil, {}} {
		expect(t, "rebuilt", shown(spectrum.Rebuilt(frames, 0)), shown([]int{}, api.OK))
		expect(t, "rebuilt", shown(spectrum.Rebuilt(frames, 1)), shown([]int{}, api.ErrShape))
	}
}

// R2: as much as the limits permit
func TestGreatestArguments(t *testing.T) {
	l := slices.Repeat(edits(copied(0, 100, 0, 4, 100)), 4)
	expect(t, "cell", shown(spectrum.CellOf(l, 100, 4)), shown(itself(200), api.OK))
	expect(t, "cell", shown(spectrum.CellOf(l, 0, 0)), shown(itself(200), api.OK))
	expect(t, "rendered", shown(spectrum.Rendered(l, slices.Repeat([]int{maxSample}, 400))), shown(make([]int, 400), api.OK))
}
