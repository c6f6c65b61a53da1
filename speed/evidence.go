package speed

import (
	"iter"
	"slices"

	"lacquer/api"
)

// checkedEvidence is evidence that has no error.
type checkedEvidence struct{ api.SpeedEvidence }

// CheckEvidence returns the error of evidence, and the index of the mark that has it (P3.4).
func CheckEvidence(e api.SpeedEvidence) (int, api.Errno) {
	err := firstError(
		checkEnds(e.Limits, 1, api.MaxSpeedTicks),
		checkOrder(e.Limits),
		when(len(e.Marks) > api.MaxSpeedMarks, api.ErrLarge))
	if err != api.OK {
		return 0, err
	}
	before := -1
	for i, mark := range e.Marks {
		err := firstError(
			checkMark(mark),
			when(mark.Position <= before, api.ErrOrder))
		if err != api.OK {
			return i, err
		}
		before = mark.Position
	}
	return 0, api.OK
}

// MarksOf returns the marks of a tone (P3.4).
func MarksOf(t api.SpeedTone) ([]api.SpeedMark, api.Errno) {
	e := firstError(
		checkEnds(t.Start, 0, api.MaxTick),
		checkEnds(t.Period, 1, api.MaxTick),
		checkOrder(t.Start),
		checkOrder(t.Period),
		when(len(t.Positions) > api.MaxSpeedMarks, api.ErrLarge))
	if e != api.OK {
		return nil, e
	}
	var marks []api.SpeedMark
	before := -1
	for k, position := range t.Positions {
		time := api.Range{Lo: t.Start.Lo + k*t.Period.Lo, Hi: t.Start.Hi + k*t.Period.Hi}
		e := firstError(
			checkPosition(position),
			when(position <= before, api.ErrOrder),
			when(time.Hi > api.MaxTick, api.ErrLarge))
		if e != api.OK {
			return nil, e
		}
		marks = append(marks, api.SpeedMark{Position: position, Time: time})
		before = position
	}
	return marks, api.OK
}

// EnclosureAt returns the times that possible courses have at a position (P3.5).
func EnclosureAt(e api.SpeedEvidence, position int) (api.Range, api.Errno) {
	evidence, err := checked(e)
	err = firstError(
		err,
		checkPosition(position),
		when(len(e.Marks) == 0, api.ErrNone),
		when(!evidence.isPossible(), api.ErrClash))
	if err != api.OK {
		return api.Range{}, err
	}
	return evidence.timesAt(position), api.OK
}

// ClashOf returns the first two marks that contradict each other (P3.5).
func ClashOf(e api.SpeedEvidence) ([2]int, api.Errno) {
	evidence, err := checked(e)
	if err != api.OK {
		return [2]int{}, err
	}
	for pair := range evidence.contradictions {
		return pair, api.OK
	}
	return [2]int{}, api.ErrNone
}

// Outliers returns the minimum set of marks without which a course is possible (P3.5).
func Outliers(e api.SpeedEvidence) ([]int, api.Errno) {
	evidence, err := checked(e)
	if err != api.OK {
		return nil, err
	}
	var outliers []int
sets:
	for set := range setsBelow(len(evidence.Marks)) {
		for pair := range evidence.contradictions {
			if !slices.Contains(set, pair[0]) && !slices.Contains(set, pair[1]) {
				continue sets
			}
		}
		outliers = set
		break sets
	}
	return outliers, api.OK
}

func checkMark(x api.SpeedMark) api.Errno {
	return firstError(
		checkPosition(x.Position),
		checkEnds(x.Time, 0, api.MaxTick),
		checkOrder(x.Time))
}

// checked returns evidence that has no error; beside an error it has no marks.
func checked(e api.SpeedEvidence) (checkedEvidence, api.Errno) {
	if _, err := CheckEvidence(e); err != api.OK {
		return checkedEvidence{}, err
	}
	return checkedEvidence{e}, api.OK
}

// limits returns the least and the greatest difference that courses make from a position to another one, which may lie before it.
func (e checkedEvidence) limits(from, to int) [2]int {
	slow, fast := e.Limits.Lo*(to-from), e.Limits.Hi*(to-from)
	return [2]int{min(slow, fast), max(slow, fast)}
}

// timesBy returns the times that a mark alone permits at a position.
func (e checkedEvidence) timesBy(mark api.SpeedMark, position int) api.Range {
	limits := e.limits(mark.Position, position)
	return api.Range{Lo: mark.Time.Lo + limits[0], Hi: mark.Time.Hi + limits[1]}
}

// timesAt returns the times that all marks, of which there is at least one, permit at a position.
// Limits by way of a third position are never narrower than the direct ones, so each mark counts by itself.
func (e checkedEvidence) timesAt(position int) api.Range {
	times := e.timesBy(e.Marks[0], position)
	for _, mark := range e.Marks[1:] {
		times = common(times, e.timesBy(mark, position))
	}
	return times
}

// contradictions yields the indexes of any two marks that contradict each other, in lexicographic order.
func (e checkedEvidence) contradictions(yield func([2]int) bool) {
	for i, mark := range e.Marks {
		for j := i + 1; j < len(e.Marks); j++ {
			later := e.Marks[j]
			both := common(e.timesBy(mark, later.Position), later.Time)
			if both.Lo > both.Hi && !yield([2]int{i, j}) {
				return
			}
		}
	}
}

// isPossible tells whether a course is possible. As each mark counts by itself, it is enough that no two contradict each other.
func (e checkedEvidence) isPossible() bool {
	for range e.contradictions {
		return false
	}
	return true
}

// common returns the numbers that two ranges share; Lo is greater than Hi if there are none.
func common(a, b api.Range) api.Range {
	return api.Range{Lo: max(a.Lo, b.Lo), Hi: min(a.Hi, b.Hi)}
}

// setsBelow yields the sets of numbers below count, smaller ones first, those of one size in lexicographic order.
func setsBelow(count int) iter.Seq[[]int] {
	return func(yield func([]int) bool) {
		for size := range count + 1 {
			if !extend(nil, size, count, yield) {
				return
			}
		}
	}
}

// extend yields the sets that begin with some numbers and have a given number of further ones, and tells whether it is to go on.
func extend(set []int, further, count int, yield func([]int) bool) bool {
	if further == 0 {
		return yield(slices.Clone(set))
	}
	next := 0
	if len(set) > 0 {
		next = set[len(set)-1] + 1
	}
	for ; next <= count-further; next++ {
		if !extend(append(set, next), further-1, count, yield) {
			return false
		}
	}
	return true
}
