package click

import (
	"slices"

	"lacquer/api"
)

const minUnmarked = 2

// CheckMarks returns the error of marks, and the index of the mark that has it (P5.3).
func CheckMarks(x []int, marks []api.Range) (int, api.Errno) {
	e := firstError(
		checkSignal(x),
		when(len(marks) > api.MaxClickMarks, api.ErrLarge))
	if e != api.OK {
		return 0, e
	}
	left := len(x)
	for i, mark := range marks {
		if e := firstError(checkMark(x, mark), checkBetween(marks[:i], mark)); e != api.OK {
			return i, e
		}
		left -= lengthOf(mark)
	}
	return 0, when(len(marks) > 0 && left < minUnmarked, api.ErrSingular)
}

func checkMark(x []int, mark api.Range) api.Errno {
	isIndex := from(0, len(x)-1)
	return firstError(
		isIndex(mark.Lo),
		isIndex(mark.Hi),
		checkOrder(mark),
		when(lengthOf(mark) > api.MaxClickRun, api.ErrLarge))
}

// checkBetween returns the error of a mark that is too close to the last of those before it.
func checkBetween(before []api.Range, mark api.Range) api.Errno {
	if len(before) == 0 {
		return api.OK
	}
	last := before[len(before)-1]
	return when(mark.Lo-last.Hi-1 < api.MinClickBetween, api.ErrGap)
}

// Exact returns the mended values of marks (P5.4).
func Exact(x []int, marks []api.Range) ([]api.ClickMend, api.Errno) {
	if _, e := CheckMarks(x, marks); e != api.OK {
		return nil, e
	}
	var mends []api.ClickMend
	for _, mark := range marks {
		mends = append(mends, mendOf(x, mark))
	}
	return mends, api.OK
}

// mendOf returns the mended values of one mark. Those of the others have no influence, since two samples lie between.
func mendOf(x []int, mark api.Range) api.ClickMend {
	nums, den := solutionOf(equationsOf(x, mark))
	divisor := commonDivisor(den, nums)
	for i := range nums {
		nums[i] /= divisor
	}
	return api.ClickMend{From: mark.Lo, Den: den / divisor, Nums: nums}
}

// CheckExact accepts mended values, or returns their error, and the index of the mend that has it (P5.4).
func CheckExact(x []int, marks []api.Range, l []api.ClickMend) (int, api.Errno) {
	_, e := CheckMarks(x, marks)
	if e := firstError(e, when(len(l) != len(marks), api.ErrShape)); e != api.OK {
		return 0, e
	}
	for i, mend := range l {
		if e := checkMend(x, marks[i], mend); e != api.OK {
			return i, e
		}
	}
	return 0, api.OK
}

func checkMend(x []int, mark api.Range, mend api.ClickMend) api.Errno {
	e := firstError(
		when(mend.From != mark.Lo || len(mend.Nums) != lengthOf(mark), api.ErrShape),
		from(1, api.MaxClickDen)(mend.Den),
		checkEach(mend.Nums, atMost(api.MaxClickNum)))
	if e != api.OK {
		return e
	}
	return firstError(
		when(commonDivisor(mend.Den, mend.Nums) > 1, api.ErrForm),
		checkProof(x, mark, mend))
}

// checkProof returns the error of values that do not have minimum energy. Those of other marks have no influence.
func checkProof(x []int, mark api.Range, mend api.ClickMend) api.Errno {
	mended := make([]int, len(x))
	for i, sample := range x {
		mended[i] = sample * mend.Den
	}
	copy(mended[mark.Lo:], mend.Nums)
	for i := mark.Lo; i <= mark.Hi; i++ {
		if slope(mended, i) != 0 {
			return api.ErrProof
		}
	}
	return api.OK
}

// Interpolated returns a signal with mended values in place of the marked samples (P5.4).
func Interpolated(x []int, marks []api.Range) ([]int, api.Errno) {
	mends, e := Exact(x, marks)
	if e != api.OK {
		return nil, e
	}
	y := slices.Clone(x)
	for _, mend := range mends {
		for i, num := range mend.Nums {
			y[mend.From+i] = limited(nearest(num, mend.Den))
		}
	}
	return y, api.OK
}

func limited(n int) int {
	return max(-api.MaxSample, min(n, api.MaxSample))
}

// Mended returns a signal all of whose clicks are mended (P5.4).
func Mended(r api.ClickRules, x []int) ([]int, api.Errno) {
	clicks, e := Clicks(r, x)
	if e != api.OK {
		return nil, e
	}
	var marks []api.Range
	marked := 0
	for _, c := range clicks {
		marks = append(marks, c.Run)
		marked += lengthOf(c.Run)
	}
	if marked*api.ClickPercent > r.Percent*len(x) {
		return nil, api.ErrBreak
	}
	return Interpolated(x, marks)
}

// Touched returns the indexes at which two signals differ (P5.5).
func Touched(x, y []int) ([]int, api.Errno) {
	e := firstError(
		checkSignal(x),
		checkSignal(y),
		when(len(x) != len(y), api.ErrShape))
	if e != api.OK {
		return nil, e
	}
	var indexes []int
	for i := range x {
		if x[i] != y[i] {
			indexes = append(indexes, i)
		}
	}
	return indexes, api.OK
}
