package spectrum_test

import (
	"slices"
	"testing"

	"lacquer/api"
	"lacquer/spectrum"
)

// P6.5, example 7, and the edge cases
func TestEdited(t *testing.T) {
	x := []int{1, 2, 3, 4, 5}
	for _, v := range []struct {
		e    api.SpectrumEdit
		x, y []int
	}{
		{gain(1, 1, 0, 4, 0), x, []int{1, 1, 1, 1, 1}},
		{gain(0, 2, 0, 4, 16), x, x},
		{gain(0, 2, 0, 4, 32), x, []int{2, 4, 6, 8, 10}},
		{gain(0, 2, 0, 4, 8), x, []int{1, 1, 2, 2, 3}},
		{gain(0, 2, 0, 4, 8), []int{-1, -2, -3, -4, -5}, []int{0, -1, -1, -2, -2}},
		{gain(0, 100, 0, 4, 0), x, make([]int, 5)},
		{copied(0, 2, 0, 4, 5), x, make([]int, 5)},
		{copied(0, 2, 0, 4, 0), x, x},
		{copied(0, 100, 0, 4, 100), x, make([]int, 5)},
		// Frames that the signal does not have do not matter.
		{gain(3, 100, 0, 4, 0), x, x},
		{copied(3, 100, 0, 4, 0), x, x},
		// A copy reads what was there before it. There is no frame 3.
		{copied(0, 2, 0, 4, 1), []int{8, 8, 8, 8, 16, 16, 16, 16}, []int{16, 16, 16, 16, 0, 0, 0, 0}},
		{copied(1, 2, 0, 4, 0), []int{8, 8, 8, 8, 16, 16, 16, 16}, []int{7, 5, 3, 1, 8, 8, 8, 8}},
		{gain(0, 1, 0, 4, 8), []int{-1}, []int{0}},
		{gain(0, 1, 0, 4, 8), []int{1}, []int{1}},
		{gain(0, 1, 0, 4, 0), nil, nil},
		{copied(0, 1, 0, 4, 0), nil, nil},
	} {
		expect(t, v, shown(spectrum.Edited(v.e, v.x)), shown(v.y, api.OK))
		expect(t, v, shown(spectrum.Rendered(edits(v.e), v.x)), shown(v.y, api.OK))
	}
}

// P6.5: edits of single bins. The values are not all rational.
func TestEditedBins(t *testing.T) {
	// Without the bin 0 the mean 1000 of both frames is missing, with a gain of 2 it is there twice.
	flat := slices.Repeat([]int{1000}, 12)
	expect(t, "mean", shown(spectrum.Edited(gain(1, 2, 0, 0, 0), flat)), shown([]int{875, 625, 375, 125, 0, 0, 0, 0, 125, 375, 625, 875}, api.OK))
	expect(t, "mean", shown(spectrum.Edited(gain(1, 2, 0, 0, 32), flat)), shown([]int{1125, 1375, 1625, 1875, 2000, 2000, 2000, 2000, 1875, 1625, 1375, 1125}, api.OK))
	// In the middle the bin 4 has all of a signal whose signs alternate.
	signs := []int{1000, -1000, 1000, -1000, 1000, -1000, 1000, -1000, 1000, -1000, 1000, -1000}
	expect(t, "signs", shown(spectrum.Edited(gain(1, 2, 4, 4, 0), signs)), shown([]int{875, -625, 375, -125, 0, 0, 0, 0, 125, -375, 625, -875}, api.OK))
	// In the frame 1 a quarter of the impulse, times 1, r, 0, -r, -1, is taken away with the bin 1.
	impulse := []int{8000, 0, 0, 0, 0}
	expect(t, "bin 1", shown(spectrum.Edited(gain(1, 1, 1, 1, 0), impulse)), shown([]int{7750, -530, 0, 1237, 1750}, api.OK))
	expect(t, "bins 1 and 3", shown(spectrum.Edited(gain(1, 1, 1, 3, 0), impulse)), shown([]int{7250, 0, 1250, 0, 1750}, api.OK))
}

// P6.5: by the document's definition
func TestSomeEditsRendered(t *testing.T) {
	d := dice(16)
	var counts [2]int
	for range 200 {
		count := between(d, 0, 40)
		l, x := someEdits(d, 12), someNumbers(d, count, []int{3, 9000, maxSample}[d.IntN(3)])
		want, wantError := rendered(t, l, x)
		expect(t, l, shown(spectrum.Rendered(l, x)), shown(want, wantError))
		if wantError == api.OK {
			counts[0]++
		} else {
			counts[1]++
		}
		for _, e := range l {
			want, wantError := rendered(t, edits(e), x)
			expect(t, e, shown(spectrum.Edited(e, x)), shown(want, wantError))
		}
	}
	if counts[0] < 50 || counts[1] < 20 {
		t.Error("too few are rendered, or break the limit:", counts)
	}
	long := someNumbers(d, 400, 8000)
	l := edits(gain(0, 100, 1, 3, 7), copied(50, 100, 0, 2, 3), gain(90, 100, 0, 4, 31), copied(0, 40, 2, 4, 60))
	want, wantError := rendered(t, l, long)
	expect(t, l, shown(spectrum.Rendered(l, long)), shown(want, wantError))
}

// P6.5: the gains are exact, and the values are rounded once.
func TestRoundedOnce(t *testing.T) {
	all := func(n int) api.SpectrumEdit { return gain(0, 100, 0, 4, n) }
	for _, v := range []struct {
		l    []api.SpectrumEdit
		x, y []int
	}{
		{edits(all(1), all(32), all(32), all(32)), []int{1, 3, -3}, []int{1, 2, -1}},
		{edits(all(8), all(8), all(32), all(32)), []int{1, 3, -3}, []int{1, 3, -3}},
		{edits(all(1), all(1), all(1), all(1)), []int{32767, -32767}, []int{0, 0}},
		{edits(all(1), all(1), all(1), all(32)), []int{1023, 1024, 1025, -1024, -1025, 0, 32767}, []int{0, 1, 1, 0, -1, 0, 16}},
		{edits(all(0), all(32), all(32), all(32)), []int{32767, -32767}, []int{0, 0}},
		{edits(all(32), all(32), all(32), all(0)), []int{32767, -32767}, []int{0, 0}},
	} {
		expect(t, v, shown(spectrum.Rendered(v.l, v.x)), shown(v.y, api.OK))
	}
}

// P6.5: the limit is reached, but not exceeded.
func TestBreak(t *testing.T) {
	for _, v := range []struct {
		e    api.SpectrumEdit
		x, y []int
	}{
		{gain(0, 100, 0, 4, 32), []int{16383, -16383}, []int{32766, -32766}},
		{gain(0, 100, 0, 4, 17), []int{30839, -30840}, []int{32766, -32767}},
		{gain(0, 100, 0, 4, 16), []int{32767, -32767}, []int{32767, -32767}},
	} {
		expect(t, v, shown(spectrum.Edited(v.e, v.x)), shown(v.y, api.OK))
	}
	for _, v := range []struct {
		e api.SpectrumEdit
		x []int
	}{
		{gain(0, 100, 0, 4, 32), []int{16384}},
		{gain(0, 100, 0, 4, 32), []int{-16384}},
		{gain(0, 100, 0, 4, 17), []int{30840}},
		{gain(0, 100, 0, 4, 17), []int{-30841}},
		{gain(0, 100, 0, 4, 32), []int{0, 0, 0, 0, 0, 32767}},
		{gain(0, 100, 0, 4, 32), []int{0, 0, 0, 0, 0, -32767}},
	} {
		expect(t, v, shown(spectrum.Edited(v.e, v.x)), shown([]int{}, api.ErrBreak))
	}
	loud := slices.Repeat(edits(gain(0, 100, 0, 4, 32)), 4)
	for _, n := range []int{2048, -2048, maxSample, -maxSample} {
		expect(t, n, shown(spectrum.Rendered(loud, slices.Repeat([]int{n}, 400))), shown([]int{}, api.ErrBreak))
	}
	expect(t, "loud", shown(spectrum.Rendered(loud, []int{2047, -2047})), shown([]int{32752, -32752}, api.OK))
}

// P6.5
func TestErrorsOfRendering(t *testing.T) {
	for _, bad := range editsWithErrors() {
		for _, x := range [][]int{nil, {1, 2, 3}, {maxSample + 1}, make([]int, 401)} {
			expect(t, bad, shown(spectrum.Edited(bad.edit, x)), shown([]int{}, bad.e))
		}
	}
	for _, bad := range listsWithErrors() {
		for _, x := range [][]int{nil, {1, 2, 3}, {maxSample + 1}} {
			expect(t, bad, shown(spectrum.Rendered(bad.edits, x)), shown([]int{}, bad.e))
		}
	}
	for _, bad := range signalsWithErrors() {
		for _, l := range [][]api.SpectrumEdit{nil, example(), edits(gain(0, 100, 0, 4, 32))} {
			expect(t, len(bad.x), shown(spectrum.Rendered(l, bad.x)), shown([]int{}, bad.e))
		}
		expect(t, len(bad.x), shown(spectrum.Edited(gain(0, 100, 0, 4, 32), bad.x)), shown([]int{}, bad.e))
	}
}

// P6.8
func TestUnchangedSignals(t *testing.T) {
	d := dice(17)
	same := [][]api.SpectrumEdit{
		nil,
		edits(gain(0, 100, 0, 4, 16)),
		edits(gain(3, 50, 1, 2, 8), gain(3, 50, 1, 2, 32)),
		edits(gain(3, 50, 1, 2, 4), gain(3, 50, 1, 2, 32), gain(3, 50, 1, 2, 32)),
		edits(copied(2, 30, 0, 3, 2)),
		// The frame 90 keeps the frame 1.
		edits(copied(90, 90, 0, 4, 1), gain(1, 1, 0, 4, 0), copied(1, 1, 0, 4, 90), copied(90, 90, 0, 4, 90)),
	}
	for _, count := range []int{0, 1, 2, 3, 4, 5, 7, 8, 9, 30, 399, 400} {
		x := someNumbers(d, count, maxSample)
		for _, l := range same[:5] {
			expect(t, l, shown(spectrum.Rendered(l, x)), shown(x, api.OK))
		}
		if count <= 300 {
			expect(t, same[5], shown(spectrum.Rendered(same[5], x)), shown(x, api.OK))
		}
	}
}

// P6.11
func TestOutsideNothingChanges(t *testing.T) {
	d := dice(18)
	outside, inside := 0, 0
	for range 2000 {
		frames := []int{3, 20, 100}[d.IntN(3)]
		l := someEdits(d, frames)
		x := someNumbers(d, between(d, 0, min(400, 4*frames+20)), 2000)
		y, e := spectrum.Rendered(l, x)
		expect(t, l, shown(e), shown(api.OK))
		r, e := spectrum.TouchedBy(l, len(x))
		expect(t, l, shown(e), shown(api.OK))
		for i := range y {
			switch isTouched := slices.ContainsFunc(r, func(r api.Range) bool { return r.Lo <= i && i <= r.Hi }); {
			case isTouched && y[i] != x[i]:
				inside++
			case !isTouched:
				outside++
				if y[i] != x[i] {
					t.Error(l, x, i, y[i])
				}
			}
		}
	}
	if outside < 1000 || inside < 1000 {
		t.Error("too few samples are outside, or changed:", outside, inside)
	}
}
