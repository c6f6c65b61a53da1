package speed_test

import (
	"math"
	"slices"
	"testing"

	"lacquer/api"
	"lacquer/speed"
)

// badEvidence is evidence that is not valid, with the index of the mark and the error.
type badEvidence struct {
	v     api.SpeedEvidence
	index int
	e     api.Errno
}

// manyMarks returns evidence with count marks, through all of which there is a course.
func manyMarks(count int) api.SpeedEvidence {
	e := evidence(8, 12)
	for i := range count {
		e.Marks = append(e.Marks, marksOf(10*i, 100*i, 100*i+5)...)
	}
	return e
}

func allBadEvidence() []badEvidence {
	large := manyMarks(13)
	large.Marks[0].Position = -1
	l := []badEvidence{
		{evidence(2, 1), 0, api.ErrOrder},
		{evidence(100000, 1, -1, 5, 5), 0, api.ErrOrder},
		{evidence(0, 0), 0, api.ErrRange},
		{evidence(5, 0, 1, 1, 1, 2, -1, 0), 0, api.ErrRange},
		{manyMarks(13), 0, api.ErrLarge},
		{large, 0, api.ErrLarge},
		{api.SpeedEvidence{Limits: span(2, 1), Marks: large.Marks}, 0, api.ErrOrder},
		{api.SpeedEvidence{Limits: span(1, 2), Marks: make([]api.SpeedMark, 100000)}, 0, api.ErrLarge},
		{evidence(1, 2, 5, 0, 0, 5, 0, 0), 1, api.ErrOrder},
		{evidence(1, 2, 5, 0, 0, 4, 0, 0), 1, api.ErrOrder},
		{evidence(1, 2, 5, 0, 0, 6, 0, 0, 6, 0, 0), 2, api.ErrOrder},
		{evidence(1, 2, 5, 0, 0, 6, 0, 0, 5, 1, 0), 2, api.ErrOrder},
		{evidence(1, 2, 5, 6, 5), 0, api.ErrOrder},
		{evidence(1, 2, 0, 1, 1, 5, 6, 5), 1, api.ErrOrder},
		{evidence(1, 2, 0, 1, 0, 5, -1, 5), 0, api.ErrOrder},
		{evidence(1, 2, 7, 1, 1, 5, -1, 5), 1, api.ErrRange},
		{evidence(1, 2, 7, 1, 1, 5, 9, -5), 1, api.ErrRange},
	}
	for _, n := range beyond(1, 100000) {
		l = append(l, badEvidence{evidence(n, 5), 0, api.ErrRange}, badEvidence{evidence(5, n, -1, 0, 0), 0, api.ErrRange}, badEvidence{evidence(n, n), 0, api.ErrRange})
	}
	for _, p := range beyond(0, maxPosition) {
		l = append(l, badEvidence{evidence(1, 2, p, 0, 0), 0, api.ErrRange}, badEvidence{evidence(1, 2, 5, 0, 0, p, 1, 0), 1, api.ErrRange})
	}
	for _, time := range beyond(0, maxTick) {
		l = append(l, badEvidence{evidence(1, 2, 0, time, 5), 0, api.ErrRange}, badEvidence{evidence(1, 2, 0, 5, time), 0, api.ErrRange}, badEvidence{evidence(1, 2, 3, 3, 3, 3, time, time), 1, api.ErrRange})
	}
	return l
}

// P3.4
func TestCheckEvidence(t *testing.T) {
	for _, v := range []api.SpeedEvidence{
		{Limits: span(1, 1)}, {Limits: span(100000, 100000), Marks: []api.SpeedMark{}}, evidence(1, 100000, 0, 0, maxTick, maxPosition, maxTick, maxTick), manyMarks(12),
		evidence(8, 12, 0, 0, 0, 10, 90, 130, 20, 250, 260), evidence(1, 1, 5, 5, 5, 6, 0, 0),
	} {
		expect(t, v, shown(speed.CheckEvidence(v)), shown(0, api.OK))
	}
	for _, bad := range allBadEvidence() {
		expect(t, bad, shown(speed.CheckEvidence(bad.v)), shown(bad.index, bad.e))
	}
}

// P3.5 and P3.6: the error of the evidence comes before all others.
func TestErrorsOfEvidence(t *testing.T) {
	none := api.SpeedMap{}
	for _, bad := range allBadEvidence() {
		for _, position := range []int{0, 5, -1, math.MaxInt} {
			expect(t, bad, shown(speed.EnclosureAt(bad.v, position)), shown(api.Range{}, bad.e))
		}
		expect(t, bad, shown(speed.ClashOf(bad.v)), shown([2]int{}, bad.e))
		expect(t, bad, shown(speed.Outliers(bad.v)), shown([]int{}, bad.e))
		for _, m := range []api.SpeedMap{none, steady(3), steady(21)} {
			expect(t, bad, shown(speed.Accepts(bad.v, m)), shown(0, bad.e))
		}
		expect(t, bad, shown(speed.AnyMap(bad.v)), shown(none, bad.e))
		expect(t, bad, shown(speed.FewestMap(bad.v)), shown(none, bad.e))
	}
}

func tone(start, period api.Range, positions ...int) api.SpeedTone {
	return api.SpeedTone{Start: start, Period: period, Positions: positions}
}

// P3.4, example 6
func TestMarksOf(t *testing.T) {
	for _, x := range []struct {
		t     api.SpeedTone
		marks []int
	}{
		{tone(span(5, 6), span(100, 102), 0, 10, 21), []int{0, 5, 6, 10, 105, 108, 21, 205, 210}},
		{tone(span(5, 6), span(100, 102)), nil},
		{tone(span(0, maxTick), span(maxTick, maxTick)), nil},
		{tone(span(0, maxTick), span(1, maxTick), 9), []int{9, 0, maxTick}},
		{tone(span(0, 0), span(1, maxTick), 0, maxPosition), []int{0, 0, 0, maxPosition, 1, maxTick}},
		{tone(span(3, maxTick-20), span(2, 10), 0, 1, 2), []int{0, 3, maxTick - 20, 1, 5, maxTick - 10, 2, 7, maxTick}},
	} {
		expect(t, x, shown(speed.MarksOf(x.t)), shown(marksOf(x.marks...), api.OK))
	}
	many := tone(span(1, 2), span(3, 5), 0, 1, 2, 3, 4, 5, 6, 7, 8, 9, 10, 11)
	marks, e := speed.MarksOf(many)
	if e != api.OK || len(marks) != 12 || marks[11] != marksOf(11, 34, 57)[0] {
		t.Error(marks, e)
	}
}

// P3.4
func TestMarksOfErrors(t *testing.T) {
	one := span(1, 1)
	many := []int{0, 1, 2, 3, 4, 5, 6, 7, 8, 9, 10, 11, 12}
	type bad struct {
		t api.SpeedTone
		e api.Errno
	}
	l := []bad{
		{tone(span(2, 1), one), api.ErrOrder},
		{tone(one, span(2, 1), -1), api.ErrOrder},
		{tone(span(2, 1), span(0, 1)), api.ErrRange},
		{tone(span(2, 1), span(2, 1), many...), api.ErrOrder},
		{tone(one, one, many...), api.ErrLarge},
		{tone(span(0, maxTick), span(1, maxTick), many...), api.ErrLarge},
		{tone(one, one, make([]int, 100000)...), api.ErrLarge},
		{tone(one, one, 5, 5), api.ErrOrder},
		{tone(one, one, 5, 4), api.ErrOrder},
		{tone(one, one, 5, 4, -1), api.ErrOrder},
		{tone(one, one, 5, -1, 4), api.ErrRange},
		{tone(one, span(1, maxTick), 5, 5), api.ErrOrder},
		{tone(one, span(1, maxTick), 5, -1), api.ErrRange},
		{tone(one, span(1, maxTick), 5, 6), api.ErrLarge},
		{tone(one, span(1, maxTick), 5, 6, 6), api.ErrLarge},
		{tone(span(0, maxTick), one, 5, 6), api.ErrLarge},
		{tone(span(0, maxTick-21), span(1, 11), 5, 6, 7), api.ErrLarge},
	}
	for _, n := range beyond(0, maxTick) {
		l = append(l, bad{tone(span(n, 5), one), api.ErrRange}, bad{tone(span(5, n), span(2, 1)), api.ErrRange})
	}
	for _, n := range beyond(1, maxTick) {
		l = append(l, bad{tone(one, span(n, 5), many...), api.ErrRange}, bad{tone(span(2, 1), span(1, n)), api.ErrRange})
	}
	for _, n := range beyond(0, maxPosition) {
		l = append(l, bad{tone(one, one, n), api.ErrRange}, bad{tone(one, one, 5, n), api.ErrRange})
	}
	for _, x := range l {
		expect(t, x, shown(speed.MarksOf(x.t)), shown([]api.SpeedMark{}, x.e))
	}
}

// P3.5, example 2 and the edge cases
func TestEnclosureAt(t *testing.T) {
	v := evidence(8, 12, 0, 0, 0, 10, 90, 130, 20, 150, 210)
	for _, x := range []struct {
		v                api.SpeedEvidence
		position, lo, hi int
	}{
		{v, 0, 0, 0}, {v, 5, 40, 60}, {v, 10, 90, 120}, {v, 20, 170, 210}, {v, 30, 250, 330},
		{evidence(8, 12, 10, 5, 7), 0, -115, -73},
		{evidence(8, 12, 10, 5, 7), 10, 5, 7},
		{evidence(1, 100000, maxPosition, 0, maxTick), 0, -100000000000, maxTick - maxPosition},
		{evidence(1, 100000, 0, maxTick, maxTick), maxPosition, maxTick + maxPosition, maxTick + 100000000000},
		{evidence(10, 10, 3, 40, 40, 5, 0, 60), 4, 50, 50},
		{evidence(10, 10, 3, 40, 40, 5, 0, 60), 0, 10, 10},
		{evidence(10, 10, 3, 40, 40), maxPosition, 9999000 + 1010, 9999000 + 1010},
		{evidence(1, 5, 0, 0, maxTick, 1, 0, maxTick), 1, 1, maxTick},
	} {
		expect(t, x, shown(speed.EnclosureAt(x.v, x.position)), shown(span(x.lo, x.hi), api.OK))
	}
	clash := evidence(8, 12, 0, 0, 0, 10, 90, 130, 20, 250, 260)
	for _, position := range []int{0, 5, 10, 20, 30, maxPosition} {
		expect(t, position, shown(speed.EnclosureAt(clash, position)), shown(api.Range{}, api.ErrClash))
		expect(t, position, shown(speed.EnclosureAt(evidence(1, 1), position)), shown(api.Range{}, api.ErrNone))
	}
	for _, position := range beyond(0, maxPosition) {
		for _, x := range []api.SpeedEvidence{v, clash, evidence(1, 1)} {
			expect(t, position, shown(speed.EnclosureAt(x, position)), shown(api.Range{}, api.ErrRange))
		}
	}
}

// P3.5 and P3.10: all courses with whole times are tried, and all sets of marks.
func TestCoursesOfSmallEvidence(t *testing.T) {
	d := dice(9)
	possible := 0
	for range 300 {
		v := someEvidence(d, between(d, 1, 5))
		courses := coursesOf(v)
		for p, times := range courses {
			want, found := rangeOf(times)
			if !found {
				expect(t, v, shown(speed.EnclosureAt(v, p)), shown(api.Range{}, api.ErrClash))
				continue
			}
			possible++
			expect(t, v, shown(speed.EnclosureAt(v, p)), shown(want, api.OK))
			for time := want.Lo; time <= want.Hi; time++ {
				if !times[time] {
					t.Error(v, p, time, "does not occur")
				}
			}
		}
		expect(t, v, shown(speed.ClashOf(v)), clashOf(v))
		expect(t, v, shown(speed.Outliers(v)), shown(outliersOf(v), api.OK))
	}
	if possible < 500 || possible > 2500 {
		t.Error("too few or too many courses are possible:", possible)
	}
}

// clashOf is the document's definition, as a call shows it.
func clashOf(v api.SpeedEvidence) string {
	for i := range v.Marks {
		for j := i + 1; j < len(v.Marks); j++ {
			if pair := (api.SpeedEvidence{Limits: v.Limits, Marks: []api.SpeedMark{v.Marks[i], v.Marks[j]}}); !hasCourse(pair) {
				return shown([2]int{i, j}, api.OK)
			}
		}
	}
	return shown([2]int{}, api.ErrNone)
}

// outliersOf is the document's definition.
func outliersOf(v api.SpeedEvidence) []int {
	var best []int
	for set := range 1 << len(v.Marks) {
		var l []int
		for i := range v.Marks {
			if set>>i&1 == 1 {
				l = append(l, i)
			}
		}
		isBetter := set == 1<<len(v.Marks)-1 && best == nil || hasCourse(v, l...)
		if isBetter && (best == nil || len(l) < len(best) || len(l) == len(best) && slices.Compare(l, best) < 0) {
			best = append([]int{}, l...)
		}
	}
	return best
}

// P3.5, example 3 and the edge cases
func TestClashOf(t *testing.T) {
	none := shown([2]int{}, api.ErrNone)
	pair := func(a, b int) string { return shown([2]int{a, b}, api.OK) }
	for _, x := range []struct {
		v    api.SpeedEvidence
		want string
	}{
		{evidence(1, 1), none},
		{evidence(1, 1, 5, 5, 5), none},
		{evidence(8, 12, 0, 0, 0, 10, 90, 130, 20, 150, 210), none},
		{evidence(8, 12, 0, 0, 0, 10, 90, 130, 20, 250, 260), pair(0, 2)},
		{evidence(8, 12, 10, 90, 130, 20, 250, 260), none},
		{evidence(8, 12, 0, 0, 0, 10, 120, 120), none},
		{evidence(8, 12, 0, 0, 0, 10, 121, 300), pair(0, 1)},
		{evidence(8, 12, 0, 0, 0, 10, 80, 80), none},
		{evidence(8, 12, 0, 0, 0, 10, 0, 79), pair(0, 1)},
		{evidence(8, 12, 0, 5, 9, 10, 0, 84), pair(0, 1)},
		{evidence(8, 12, 0, 5, 9, 10, 0, 85), none},
		{evidence(8, 12, 0, 5, 9, 10, 130, 200), pair(0, 1)},
		{evidence(8, 12, 0, 5, 9, 10, 129, 200), none},
		{evidence(1, 100000, 0, 0, maxTick, maxPosition, 0, maxTick), none},
		{evidence(1, 100000, 0, maxTick, maxTick, maxPosition, 0, maxTick), pair(0, 1)},
		{evidence(1, 100000, 0, 0, 0, maxPosition, 100000000001, maxTick), pair(0, 1)},
		{evidence(1, 1, 0, 50, 50, 1, 0, 0, 2, 1, 1, 3, 53, 53), pair(0, 1)},
		{evidence(1, 1, 0, 0, 99, 1, 1, 1, 2, 50, 50, 3, 0, 99), pair(1, 2)},
	} {
		expect(t, x.v, shown(speed.ClashOf(x.v)), x.want)
	}
}

// grouped returns evidence of which two marks contradict each other if they are not of the same group.
func grouped(count, groups int) api.SpeedEvidence {
	v := evidence(1, 1)
	for i := range count {
		time := i%groups*500 + i
		v.Marks = append(v.Marks, marksOf(i, time, time)...)
	}
	return v
}

// P3.5, example 3
func TestOutliers(t *testing.T) {
	for _, x := range []struct {
		v    api.SpeedEvidence
		want []int
	}{
		{evidence(1, 1), nil},
		{evidence(1, 1, 5, 5, 5), nil},
		{manyMarks(12), nil},
		{evidence(8, 12, 0, 0, 0, 10, 90, 130, 20, 150, 210), nil},
		{evidence(8, 12, 0, 0, 0, 10, 90, 130, 20, 250, 260), []int{0}},
		{evidence(1, 1, 0, 0, 0, 1, 1, 1, 2, 50, 50), []int{2}},
		{evidence(1, 1, 0, 0, 0, 1, 50, 50, 2, 2, 2), []int{1}},
		{evidence(1, 1, 0, 0, 0, 1, 1, 1, 2, 50, 50, 3, 51, 51), []int{0, 1}},
		{evidence(1, 1, 0, 0, 0, 1, 50, 50, 2, 2, 2, 3, 52, 52), []int{0, 2}},
		{evidence(1, 1, 0, 0, 0, 1, 50, 50, 2, 51, 51, 3, 3, 3), []int{0, 3}},
		{grouped(12, 12), []int{0, 1, 2, 3, 4, 5, 6, 7, 8, 9, 10}},
		{grouped(12, 2), []int{0, 2, 4, 6, 8, 10}},
		{grouped(12, 3), []int{0, 1, 3, 4, 6, 7, 9, 10}},
		{grouped(11, 2), []int{1, 3, 5, 7, 9}},
	} {
		expect(t, x.v, shown(speed.Outliers(x.v)), shown(append([]int{}, x.want...), api.OK))
	}
}

// P3.10: the courses are those of the marks that are left.
func TestOutliersAreEnough(t *testing.T) {
	d := dice(10)
	for range 100 {
		v := someEvidence(d, 9)
		outliers, e := speed.Outliers(v)
		if e != api.OK || !hasCourse(v, outliers...) {
			t.Error(v, outliers, e)
		}
		for i := range outliers {
			if hasCourse(v, slices.Delete(slices.Clone(outliers), i, i+1)...) {
				t.Error(v, outliers, "without", i)
			}
		}
		_, e = speed.ClashOf(v)
		if (e == api.ErrNone) != hasCourse(v) || (e == api.ErrNone) != (len(outliers) == 0) {
			t.Error(v, outliers, e)
		}
	}
}

// P3.9
func TestMoreMarksEncloseMore(t *testing.T) {
	d := dice(11)
	for range 200 {
		v := someEvidence(d, between(d, 2, 5))
		for p := 0; p <= 12; p++ {
			narrow, e := speed.EnclosureAt(v, p)
			if e != api.OK {
				continue
			}
			for i := range v.Marks {
				less := api.SpeedEvidence{Limits: v.Limits, Marks: slices.Delete(slices.Clone(v.Marks), i, i+1)}
				wide, e := speed.EnclosureAt(less, p)
				if e != api.OK || narrow.Lo < wide.Lo || narrow.Hi > wide.Hi {
					t.Error(v, p, i, narrow, wide, e)
				}
			}
		}
	}
}
