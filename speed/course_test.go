package speed_test

import (
	"math/rand/v2"
	"slices"
	"testing"

	"lacquer/api"
	"lacquer/speed"
)

// accepts is the document's definition, as a call shows it.
func accepts(v api.SpeedEvidence, m api.SpeedMap) string {
	for i := 1; i < len(m.Nodes); i++ {
		a, b := m.Nodes[i-1], m.Nodes[i]
		length, duration := b.Position-a.Position, b.Time-a.Time
		if duration < v.Limits.Lo*length || duration > v.Limits.Hi*length {
			return shown(i-1, api.ErrBreak)
		}
	}
	for i, mark := range v.Marks {
		if mark.Position < m.Nodes[0].Position || mark.Position > m.Nodes[len(m.Nodes)-1].Position {
			return shown(i, api.ErrGap)
		}
		if !isIn(mark.Time, timeOf(m, mark.Position)) {
			return shown(i, api.ErrClash)
		}
	}
	return shown(0, api.OK)
}

// P3.6, example 4
func TestAccepts(t *testing.T) {
	v := evidence(8, 12, 0, 0, 0, 10, 90, 130, 20, 150, 210)
	for _, x := range []struct {
		v     api.SpeedEvidence
		m     api.SpeedMap
		index int
		e     api.Errno
	}{
		{v, mapOf(0, 0, 20, 200), 0, api.OK},
		{v, mapOf(0, 0, 20, 180), 0, api.OK},
		{v, mapOf(0, 0, 20, 178), 1, api.ErrClash},
		{v, mapOf(0, 0, 20, 179), 1, api.ErrClash},
		{v, mapOf(0, 0, 10, 100, 20, 230), 1, api.ErrBreak},
		{v, mapOf(0, 0, 10, 100), 2, api.ErrGap},
		{v, mapOf(0, 0, 19, 190), 2, api.ErrGap},
		{v, mapOf(1, 10, 20, 200), 0, api.ErrGap},
		{v, mapOf(0, 1, 20, 200), 0, api.ErrClash},
		{v, mapOf(0, 1, 10, 100), 0, api.ErrClash},
		{v, mapOf(0, 0, 9, 80), 1, api.ErrGap},
		{v, mapOf(0, 0, 9, 80, 11, 95, 20, 180), 1, api.ErrBreak},
		{v, mapOf(0, 0, 10, 80, 20, 180), 1, api.ErrClash},
		{v, mapOf(0, 0, 10, 120, 20, 200), 0, api.OK},
		{v, mapOf(0, 0, 10, 121, 20, 201), 0, api.ErrBreak},
		{v, mapOf(0, 0, 10, 120, 20, 199), 1, api.ErrBreak},
		{v, mapOf(0, 5, 10, 105, 20, 400, 30, 401), 1, api.ErrBreak},
		{v, mapOf(0, 0, 10, 100, 20, 211), 2, api.ErrClash},
		{v, mapOf(0, 0, 10, 100, 20, 210, 30, 330), 0, api.OK},
		{evidence(8, 12, 5, 41, 41), mapOf(2, 10, 8, 71), 0, api.ErrClash},
		{evidence(8, 12, 5, 40, 40), mapOf(2, 10, 8, 71), 0, api.ErrClash},
		{evidence(8, 12, 5, 40, 41), mapOf(2, 10, 8, 71), 0, api.OK},
		{evidence(8, 12), mapOf(2, 10, 8, 71), 0, api.OK},
		{evidence(8, 12), mapOf(0, 0, 10, 79), 0, api.ErrBreak},
		{evidence(1, 100000), mapOf(0, 0, maxPosition, maxTick), 0, api.ErrBreak},
		{evidence(1, 100000), mapOf(0, 0, maxPosition, 100000000000), 0, api.OK},
		{evidence(1, 100000), mapOf(0, 0, maxPosition, maxPosition), 0, api.OK},
		{evidence(1, 100000), mapOf(0, 0, maxPosition, maxPosition-1), 0, api.ErrBreak},
	} {
		expect(t, x, shown(speed.Accepts(x.v, x.m)), shown(x.index, x.e))
	}
	for _, bad := range badMaps() {
		expect(t, bad, shown(speed.Accepts(v, bad.m)), shown(0, bad.e))
	}
}

// smallMap returns a map whose times are near those of someEvidence.
func smallMap(d *rand.Rand) api.SpeedMap {
	var m api.SpeedMap
	time := between(d, 0, 4)
	for _, p := range ascending(d, between(d, 2, 4), 0, lastPosition) {
		if count := len(m.Nodes); count > 0 {
			time += (p - m.Nodes[count-1].Position) * between(d, 1, 4)
			time += between(d, 0, 1)
		}
		m.Nodes = append(m.Nodes, api.SpeedNode{Position: p, Time: time})
	}
	return m
}

// P3.6 and P3.9
func TestAcceptsOfSmallMaps(t *testing.T) {
	d := dice(12)
	accepted := 0
	for range 20000 {
		v, m := someEvidence(d, between(d, 0, 2)), smallMap(d)
		got := shown(speed.Accepts(v, m))
		expect(t, v, got, accepts(v, m))
		if got != shown(0, api.OK) || len(v.Marks) == 0 {
			continue
		}
		accepted++
		for p := m.Nodes[0].Position; p <= m.Nodes[len(m.Nodes)-1].Position; p++ {
			r, e := speed.EnclosureAt(v, p)
			if e != api.OK || !isIn(r, timeOf(m, p)) {
				t.Error(v, m, p, r, e)
			}
		}
	}
	if accepted < 150 {
		t.Error("too few maps are accepted:", accepted)
	}
}

// P3.11: the ranges of a tone are as narrow as whole numbers permit.
func TestSteadyTones(t *testing.T) {
	d := dice(13)
	for range 300 {
		m := smallMap(d)
		last := m.Nodes[len(m.Nodes)-1].Position
		positions := ascending(d, between(d, 1, min(6, last-m.Nodes[0].Position+1)), m.Nodes[0].Position, last)
		start := timesAt(t, m, positions[0])
		period := span(maxTick, 1)
		for k := 1; k < len(positions); k++ {
			r := timesAt(t, m, positions[k])
			period = span(min(period.Lo, (r.Lo-start.Lo)/k), max(period.Hi, (r.Hi-start.Hi)/k+1))
		}
		marks, e := speed.MarksOf(tone(start, span(max(1, min(period.Lo, period.Hi)), period.Hi), positions...))
		if e != api.OK {
			t.Fatal(m, positions, e)
		}
		v := api.SpeedEvidence{Limits: span(1, 6), Marks: marks}
		isInside := !slices.ContainsFunc(marks, func(x api.SpeedMark) bool { return !isIn(x.Time, timeOf(m, x.Position)) })
		if _, e := speed.Accepts(v, m); e != api.OK || !isInside {
			t.Error(v, m, e, isInside)
		}
	}
}

// fewestOf returns the minimum number of nodes of maps through all marks: for each node, how many there are up to it at least.
func fewestOf(v api.SpeedEvidence) int {
	least := map[api.SpeedNode]int{}
	for j, to := range v.Marks {
		for time := to.Time.Lo; time <= to.Time.Hi; time++ {
			b := api.SpeedNode{Position: to.Position, Time: time}
			if j == 0 {
				least[b] = 1
			}
			for i, from := range v.Marks[:j] {
				for earlier := from.Time.Lo; earlier <= from.Time.Hi; earlier++ {
					a := api.SpeedNode{Position: from.Position, Time: earlier}
					if n := least[a]; n > 0 && isStraight(v, v.Marks[i+1:j], a, b) && (least[b] == 0 || n+1 < least[b]) {
						least[b] = n + 1
					}
				}
			}
		}
	}
	fewest := 0
	last := v.Marks[len(v.Marks)-1]
	for time := last.Time.Lo; time <= last.Time.Hi; time++ {
		if n := least[api.SpeedNode{Position: last.Position, Time: time}]; n > 0 && (fewest == 0 || n < fewest) {
			fewest = n
		}
	}
	return fewest
}

// isStraight tells whether one piece from a to b is permitted by the limits and the marks in between.
func isStraight(v api.SpeedEvidence, marks []api.SpeedMark, a, b api.SpeedNode) bool {
	length, duration := b.Position-a.Position, b.Time-a.Time
	for _, x := range marks {
		time := a.Time*length + duration*(x.Position-a.Position)
		if time < x.Time.Lo*length || time > x.Time.Hi*length {
			return false
		}
	}
	return duration >= v.Limits.Lo*length && duration <= v.Limits.Hi*length
}

// expectMaps checks AnyMap and FewestMap, and returns how many nodes there are at least (0 if there is no map).
func expectMaps(t *testing.T, v api.SpeedEvidence) int {
	t.Helper()
	fewest := fewestOf(v)
	if fewest == 0 {
		expect(t, v, shown(speed.AnyMap(v)), shown(api.SpeedMap{}, api.ErrClash))
		expect(t, v, shown(speed.FewestMap(v)), shown(api.SpeedMap{}, api.ErrClash))
		return 0
	}
	m, e := speed.AnyMap(v)
	expect(t, v, shown(len(m.Nodes) > 1, e), shown(true, api.OK))
	expectThrough(t, v, m)
	m, e = speed.FewestMap(v)
	expect(t, v, shown(len(m.Nodes), e), shown(fewest, api.OK))
	expectThrough(t, v, m)
	for _, node := range m.Nodes {
		if !slices.ContainsFunc(v.Marks, func(x api.SpeedMark) bool { return x.Position == node.Position }) {
			t.Error(v, node, "is at no mark")
		}
	}
	return fewest
}

// expectThrough expects that a map is accepted, and goes from the first to the last mark.
func expectThrough(t *testing.T, v api.SpeedEvidence, m api.SpeedMap) {
	t.Helper()
	expect(t, v, accepts(v, m), shown(0, api.OK))
	expect(t, v, shown(speed.Accepts(v, m)), shown(0, api.OK))
	expect(t, v, shown(m.Nodes[0].Position, m.Nodes[len(m.Nodes)-1].Position), shown(v.Marks[0].Position, v.Marks[len(v.Marks)-1].Position))
}

// P3.6 and P3.12
func TestMapsThroughFewMarks(t *testing.T) {
	d := dice(14)
	var counts [8]int
	for range 600 {
		counts[expectMaps(t, someEvidence(d, between(d, 2, 5)))]++
	}
	if slices.Contains(counts[2:4], 0) || counts[0] == 0 {
		t.Error("some numbers of nodes do not occur:", counts)
	}
}

// bentEvidence returns evidence of twelve marks that a course with changing rates passes.
func bentEvidence(d *rand.Rand, width int) api.SpeedEvidence {
	v := evidence(5, 20)
	time := between(d, 0, 100)
	for i := range 12 {
		lo := max(0, time-d.IntN(width))
		v.Marks = append(v.Marks, marksOf(7*i, lo, lo+width-1)...)
		time += 7 * between(d, 5, 20)
	}
	return v
}

// P3.6 and P3.12
func TestMapsThroughManyMarks(t *testing.T) {
	d := dice(15)
	var counts [13]int
	for _, width := range []int{1, 2, 10, 25, 40, 40, 40, 40} {
		counts[expectMaps(t, bentEvidence(d, width))]++
	}
	expect(t, "no width", shown(counts[12] > 0), shown(true))
	wide := manyMarks(12)
	for i := range wide.Marks {
		wide.Marks[i].Time.Hi = wide.Marks[i].Time.Lo + 39
	}
	expect(t, "one piece", shown(expectMaps(t, wide)), shown(2))
}

// P3.12: two nodes exactly if one straight piece is accepted.
func TestOnePiece(t *testing.T) {
	d := dice(16)
	for range 300 {
		v := someEvidence(d, between(d, 2, 4))
		m, e := speed.FewestMap(v)
		if e != api.OK {
			continue
		}
		first, last := v.Marks[0], v.Marks[len(v.Marks)-1]
		found := false
		for a := first.Time.Lo; a <= first.Time.Hi; a++ {
			for b := last.Time.Lo; b <= last.Time.Hi; b++ {
				_, e := speed.Accepts(v, mapOf(first.Position, a, last.Position, b))
				found = found || e == api.OK
			}
		}
		expect(t, v, shown(len(m.Nodes) == 2), shown(found))
	}
}

// P3.6, examples 4 and 5
func TestMapsOfTheExamples(t *testing.T) {
	expect(t, "two nodes", shown(expectMaps(t, evidence(8, 12, 0, 0, 0, 10, 90, 110, 20, 180, 210))), shown(2))
	expect(t, "three nodes", shown(expectMaps(t, evidence(8, 12, 0, 0, 0, 10, 90, 92, 20, 200, 204))), shown(3))
	expect(t, "the limits", shown(expectMaps(t, evidence(10, 10, 5, 5, 5, 10, 55, 55))), shown(2))
	far := evidence(1, 100000, 0, maxTick-maxPosition, maxTick-maxPosition, maxPosition, maxTick-39, maxTick)
	expect(t, "far", shown(expectMaps(t, far)), shown(2))
	expect(t, "last", shown(speed.AnyMap(far)), shown(mapOf(0, maxTick-maxPosition, maxPosition, maxTick), api.OK))
	wide := evidence(8, 12, 0, 0, 0, 10, 90, 130, 20, 150, 210)
	m, e := speed.AnyMap(wide)
	expect(t, "wide", shown(e), shown(api.OK))
	expectThrough(t, wide, m)
	expect(t, "wide", shown(speed.FewestMap(wide)), shown(api.SpeedMap{}, api.ErrLarge))
}

// P3.6
func TestErrorsOfMapsThroughMarks(t *testing.T) {
	none := api.SpeedMap{}
	for _, x := range []struct {
		v           api.SpeedEvidence
		any, fewest api.Errno
	}{
		{evidence(8, 12), api.ErrShape, api.ErrShape},
		{evidence(8, 12, 5, 5, 5), api.ErrShape, api.ErrShape},
		{evidence(8, 12, 5, 5, 500), api.ErrShape, api.ErrShape},
		{evidence(8, 12, 0, 0, 0, 10, 90, 130, 20, 250, 260), api.ErrClash, api.ErrLarge},
		{evidence(8, 12, 0, 0, 0, 10, 90, 129, 20, 250, 260), api.ErrClash, api.ErrClash},
		{evidence(8, 12, 0, 0, 0, 10, 90, 129, 20, 250, 290), api.ErrClash, api.ErrLarge},
		{evidence(8, 12, 0, 0, 40, 10, 500, 500), api.ErrClash, api.ErrLarge},
		{evidence(8, 12, 0, 0, 0, 10, 121, 121), api.ErrClash, api.ErrClash},
	} {
		expect(t, x, shown(speed.AnyMap(x.v)), shown(none, x.any))
		expect(t, x, shown(speed.FewestMap(x.v)), shown(none, x.fewest))
	}
	for _, v := range []api.SpeedEvidence{
		evidence(8, 12, 0, 0, 40, 10, 90, 90), evidence(8, 12, 0, 0, 0, 10, 50, 130), evidence(1, 12, 0, 0, maxTick, maxPosition, 0, maxTick),
	} {
		m, e := speed.AnyMap(v)
		expect(t, v, shown(e), shown(api.OK))
		expectThrough(t, v, m)
		expect(t, v, shown(speed.FewestMap(v)), shown(none, api.ErrLarge))
	}
	expect(t, "40 times", shown(expectMaps(t, evidence(8, 12, 0, 0, 39, 10, 90, 129))), shown(2))
}
