package speed_test

import (
	"math"
	"math/big"
	"testing"

	"lacquer/api"
	"lacquer/speed"
)

// badMap is a map that is not valid, with the index of the node and the error.
type badMap struct {
	m     api.SpeedMap
	index int
	e     api.Errno
}

func badMaps() []badMap {
	l := []badMap{
		{mapOf(), 0, api.ErrShape},
		{api.SpeedMap{Nodes: []api.SpeedNode{}}, 0, api.ErrShape},
		{mapOf(5, 5), 0, api.ErrShape},
		{mapOf(-1, -1), 0, api.ErrShape},
		{steady(21), 0, api.ErrLarge},
		{api.SpeedMap{Nodes: make([]api.SpeedNode, 100000)}, 0, api.ErrLarge},
		{mapOf(append(make([]int, 40), -1, -1)...), 0, api.ErrLarge},
		{mapOf(0, 0, 0, 0), 1, api.ErrOrder},
		{mapOf(0, 0, 0, 5), 1, api.ErrOrder},
		{mapOf(0, 5, 1, 5), 1, api.ErrOrder},
		{mapOf(0, 5, 1, 4), 1, api.ErrOrder},
		{mapOf(6, 5, 5, 6), 1, api.ErrOrder},
		{mapOf(0, 0, 1, 1, 2, 1), 2, api.ErrOrder},
		{mapOf(0, 0, 2, 2, 1, 3), 2, api.ErrOrder},
		{mapOf(0, 0, 2, 2, 1, 3, 5, -1), 2, api.ErrOrder},
		{mapOf(0, 0, 1, -1, 1, 3), 1, api.ErrRange},
		{mapOf(0, 9, 0, -1), 1, api.ErrRange},
		{mapOf(0, 9, -1, 5), 1, api.ErrRange},
	}
	for _, p := range beyond(0, maxPosition) {
		l = append(l, badMap{mapOf(p, 0, 1, 1), 0, api.ErrRange}, badMap{mapOf(0, 0, p, 1), 1, api.ErrRange}, badMap{mapOf(0, 0, 1, 1, p, p), 2, api.ErrRange})
	}
	for _, time := range beyond(0, maxTick) {
		l = append(l, badMap{mapOf(0, time, 1, 1), 0, api.ErrRange}, badMap{mapOf(0, 0, 1, time), 1, api.ErrRange}, badMap{mapOf(0, 0, 1, 1, 2, time), 2, api.ErrRange})
	}
	return l
}

// P3.1
func TestCheckMap(t *testing.T) {
	for _, m := range someMaps(1) {
		expect(t, m, shown(speed.CheckMap(m)), shown(0, api.OK))
	}
	for _, bad := range badMaps() {
		expect(t, bad, shown(speed.CheckMap(bad.m)), shown(bad.index, bad.e))
	}
}

// P3.1 to P3.3: the error of the map comes before all others.
func TestErrorsOfMaps(t *testing.T) {
	none, good := api.SpeedMap{}, mapOf(0, 0, 1, 1)
	for _, bad := range badMaps() {
		for _, n := range []int{0, 1, -1, math.MinInt, math.MaxInt} {
			expect(t, bad, shown(speed.TimeAt(bad.m, n)), shown(api.Range{}, bad.e))
			expect(t, bad, shown(speed.PositionAt(bad.m, n)), shown(api.Range{}, bad.e))
			expect(t, bad, shown(speed.RateAt(bad.m, n)), shown(api.Frac{}, bad.e))
			expect(t, bad, shown(speed.Part(bad.m, n, 1)), shown(none, bad.e))
			expect(t, bad, shown(speed.Part(bad.m, 0, n)), shown(none, bad.e))
		}
		expect(t, bad, shown(speed.WowOf(bad.m)), shown(api.Frac{}, 0, bad.e))
		expect(t, bad, shown(speed.Joined(bad.m, good)), shown(none, bad.e))
		expect(t, bad, shown(speed.Joined(good, bad.m)), shown(none, bad.e))
		expect(t, bad, shown(speed.Joined(bad.m, steady(21))), shown(none, bad.e))
		expect(t, bad, shown(speed.Joined(steady(21), bad.m)), shown(none, api.ErrLarge))
	}
}

// P3.1, example 1
func TestTimesAndPositionsOfTheExample(t *testing.T) {
	m := mapOf(0, 0, 10, 100, 20, 220)
	for _, x := range []struct{ position, lo, hi int }{
		{0, 0, 0}, {5, 50, 50}, {10, 100, 100}, {11, 112, 112}, {15, 160, 160}, {20, 220, 220},
	} {
		expect(t, x, shown(speed.TimeAt(m, x.position)), shown(span(x.lo, x.hi), api.OK))
	}
	expect(t, m, shown(speed.TimeAt(mapOf(0, 0, 3, 10), 1)), shown(span(3, 4), api.OK))
	for _, x := range []struct{ time, lo, hi int }{
		{0, 0, 0}, {1, 6, 7}, {5, 32, 32}, {99, 633, 634}, {100, 640, 640}, {101, 645, 646}, {105, 666, 667}, {220, 1280, 1280},
	} {
		expect(t, x, shown(speed.PositionAt(m, x.time)), shown(span(x.lo, x.hi), api.OK))
	}
}

// P3.1: also at the nodes, where both ends are equal.
func TestTimeAt(t *testing.T) {
	d := dice(2)
	for _, m := range someMaps(2) {
		for _, p := range fewPositions(d, m) {
			expect(t, p, shown(speed.TimeAt(m, p)), shown(around(timeOf(m, p)), api.OK))
		}
		for _, node := range m.Nodes {
			expect(t, node, shown(speed.TimeAt(m, node.Position)), shown(span(node.Time, node.Time), api.OK))
		}
		for _, p := range beyond(m.Nodes[0].Position, m.Nodes[len(m.Nodes)-1].Position) {
			expect(t, p, shown(speed.TimeAt(m, p)), shown(api.Range{}, api.ErrRange))
		}
	}
}

// P3.1
func TestPositionAt(t *testing.T) {
	d := dice(3)
	for _, m := range someMaps(3) {
		first, last := m.Nodes[0].Time, m.Nodes[len(m.Nodes)-1].Time
		var times []int
		for _, node := range m.Nodes {
			expect(t, node, shown(speed.PositionAt(m, node.Time)), shown(span(64*node.Position, 64*node.Position), api.OK))
			times = append(times, max(first, node.Time-1), min(last, node.Time+1), between(d, first, last), between(d, first, last))
		}
		for _, time := range times {
			expect(t, time, shown(speed.PositionAt(m, time)), shown(around(positionOf(m, time)), api.OK))
		}
		for _, time := range beyond(first, last) {
			expect(t, time, shown(speed.PositionAt(m, time)), shown(api.Range{}, api.ErrRange))
		}
	}
}

// P3.8
func TestThereAndBack(t *testing.T) {
	d := dice(4)
	for _, m := range someMaps(4) {
		var before, partBefore api.Range
		for _, p := range fewPositions(d, m) {
			time := timesAt(t, m, p)
			lo, e := speed.PositionAt(m, time.Lo)
			hi, f := speed.PositionAt(m, time.Hi)
			if e != api.OK || f != api.OK || lo.Lo > 64*p || hi.Hi < 64*p {
				t.Error(m, p, time, lo, hi, e, f)
			}
			if time.Lo < before.Lo || time.Hi < before.Hi || lo.Lo < partBefore.Lo || hi.Hi < partBefore.Hi {
				t.Error(m, p, "descends")
			}
			before, partBefore = time, span(lo.Lo, hi.Hi)
		}
	}
}

// fraction returns a number, which is not below 0, in lowest terms, and whether it is not too large.
func fraction(x *big.Rat) (api.Frac, bool) {
	f := api.Frac{Num: int(x.Num().Int64()), Den: int(x.Denom().Int64())}
	return f, f.Num <= 1000000000
}

// P3.2, example 1
func TestRateAt(t *testing.T) {
	for _, m := range someMaps(5) {
		for i := 1; i < len(m.Nodes); i++ {
			a, b := m.Nodes[i-1], m.Nodes[i]
			want := shown(api.Frac{}, api.ErrLarge)
			if f, ok := fraction(big.NewRat(int64(b.Time-a.Time), int64(b.Position-a.Position))); ok {
				want = shown(f, api.OK)
			}
			expect(t, i, shown(speed.RateAt(m, i-1)), want)
		}
		for _, i := range beyond(0, len(m.Nodes)-2) {
			expect(t, i, shown(speed.RateAt(m, i)), shown(api.Frac{}, api.ErrMissing))
		}
	}
	for _, x := range []struct {
		m     api.SpeedMap
		piece int
		want  string
	}{
		{mapOf(0, 0, 10, 100, 20, 220), 0, shown(api.Frac{Num: 10, Den: 1}, api.OK)},
		{mapOf(0, 0, 10, 100, 20, 220), 1, shown(api.Frac{Num: 12, Den: 1}, api.OK)},
		{mapOf(0, 0, 12, 9), 0, shown(api.Frac{Num: 3, Den: 4}, api.OK)},
		{mapOf(0, 0, 1, 1000000000), 0, shown(api.Frac{Num: 1000000000, Den: 1}, api.OK)},
		{mapOf(0, 0, 1, 1000000001), 0, shown(api.Frac{}, api.ErrLarge)},
		{mapOf(0, 0, 2, 2000000000), 0, shown(api.Frac{Num: 1000000000, Den: 1}, api.OK)},
		{mapOf(0, 0, 2, 1000000001), 0, shown(api.Frac{}, api.ErrLarge)},
		{mapOf(0, 0, 1, 1, 2, 2000000000), 1, shown(api.Frac{}, api.ErrLarge)},
		{mapOf(0, 0, maxPosition, 999999999), 0, shown(api.Frac{Num: 999999999, Den: 1000000}, api.OK)},
	} {
		expect(t, x, shown(speed.RateAt(x.m, x.piece)), x.want)
	}
}

// wowOf is the document's definition.
func wowOf(m api.SpeedMap) (*big.Rat, int) {
	most, index := new(big.Rat), 0
	a, b := m.Nodes[0], m.Nodes[len(m.Nodes)-1]
	for i, node := range m.Nodes {
		x := on(a.Position, a.Time, b.Position, b.Time, node.Position)
		x.Abs(x.Sub(x, big.NewRat(int64(node.Time), 1)))
		if x.Cmp(most) > 0 {
			most, index = x, i
		}
	}
	return most, index
}

// P3.2
func TestWowOf(t *testing.T) {
	for _, m := range someMaps(6) {
		most, index := wowOf(m)
		want := shown(api.Frac{}, 0, api.ErrLarge)
		if f, ok := fraction(most); ok {
			want = shown(f, index, api.OK)
		}
		expect(t, m, shown(speed.WowOf(m)), want)
	}
}

// P3.2 and P3.13, example 1
func TestWowOfSingleMaps(t *testing.T) {
	const half = 2000000000
	for _, x := range []struct {
		m               api.SpeedMap
		num, den, index int
		e               api.Errno
	}{
		{mapOf(0, 0, 10, 100, 20, 220), 10, 1, 1, api.OK},
		{mapOf(0, 0, 5, 7), 0, 1, 0, api.OK},
		{mapOf(3, 0, maxPosition, maxTick), 0, 1, 0, api.OK},
		{steady(20), 0, 1, 0, api.OK},
		{mapOf(0, 0, 10, 110, 20, 190, 30, 300), 10, 1, 1, api.OK},
		{mapOf(0, 0, 10, 90, 20, 210, 30, 300), 10, 1, 1, api.OK},
		{mapOf(0, 0, 10, 95, 20, 210, 30, 300), 10, 1, 2, api.OK},
		{mapOf(0, 0, 10, 105, 20, 190, 30, 300), 10, 1, 2, api.OK},
		{mapOf(5, 1, 6, 2, 8, 3), 1, 3, 1, api.OK},
		{mapOf(5, 1, 6, 2, 9, 3), 1, 2, 1, api.OK},
		{mapOf(0, 0, 1, half+1000000000, 2, 2*half), 1000000000, 1, 1, api.OK},
		{mapOf(0, 0, 1, half-1000000000, 2, 2*half), 1000000000, 1, 1, api.OK},
		{mapOf(0, 0, 1, half+1000000001, 2, 2*half), 0, 0, 0, api.ErrLarge},
		{mapOf(0, 0, 1, half-1000000001, 2, 2*half), 0, 0, 0, api.ErrLarge},
		{mapOf(0, 0, 1, half-500000000, 2, 2*half-1), 999999999, 2, 1, api.OK},
		{mapOf(0, 0, 1, half+500000000, 2, 2*half-1), 0, 0, 0, api.ErrLarge},
	} {
		expect(t, x, shown(speed.WowOf(x.m)), shown(api.Frac{Num: x.num, Den: x.den}, x.index, x.e))
	}
}

// P3.3
func TestPart(t *testing.T) {
	for _, m := range someMaps(7)[:40] {
		count := len(m.Nodes)
		for first := -1; first <= count; first++ {
			for last := -1; last <= count; last++ {
				want := shown(api.SpeedMap{Nodes: []api.SpeedNode{}}, api.ErrMissing)
				if first >= 0 && last >= 0 && first < count && last < count {
					want = shown(api.SpeedMap{}, api.ErrShape)
					if first < last {
						want = shown(api.SpeedMap{Nodes: m.Nodes[first : last+1]}, api.OK)
					}
				}
				expect(t, span(first, last), shown(speed.Part(m, first, last)), want)
			}
		}
	}
	for _, n := range beyond(0, 1) {
		expect(t, n, shown(speed.Part(mapOf(0, 0, 1, 1), n, 1)), shown(api.SpeedMap{}, api.ErrMissing))
		expect(t, n, shown(speed.Part(mapOf(0, 0, 1, 1), 0, n)), shown(api.SpeedMap{}, api.ErrMissing))
		expect(t, n, shown(speed.Part(mapOf(0, 0, 1, 1), n, n)), shown(api.SpeedMap{}, api.ErrMissing))
	}
}

// P3.3 and P3.13
func TestJoined(t *testing.T) {
	for _, m := range someMaps(8) {
		for i := 1; i < len(m.Nodes)-1; i++ {
			a, e := speed.Part(m, 0, i)
			b, f := speed.Part(m, i, len(m.Nodes)-1)
			expect(t, i, shown(e, f), shown(api.OK, api.OK))
			expect(t, i, shown(speed.Joined(a, b)), shown(m, api.OK))
			expect(t, i, shown(speed.Joined(b, a)), shown(api.SpeedMap{}, api.ErrGap))
		}
	}
	late := func(count, by int) api.SpeedMap {
		m := steady(count)
		for i := range m.Nodes {
			m.Nodes[i].Position += by
			m.Nodes[i].Time += 10 * by
		}
		return m
	}
	for _, x := range []struct {
		a, b api.SpeedMap
		want string
	}{
		{steady(2), late(2, 10), shown(steady(3), api.OK)},
		{steady(10), late(11, 90), shown(steady(20), api.OK)},
		{steady(19), late(2, 180), shown(steady(20), api.OK)},
		{steady(11), late(11, 100), shown(api.SpeedMap{}, api.ErrLarge)},
		{steady(20), late(2, 190), shown(api.SpeedMap{}, api.ErrLarge)},
		{steady(20), late(20, 190), shown(api.SpeedMap{}, api.ErrLarge)},
		{steady(20), late(20, 200), shown(api.SpeedMap{}, api.ErrGap)},
		{steady(2), steady(2), shown(api.SpeedMap{}, api.ErrGap)},
		{steady(2), mapOf(10, 101, 20, 200), shown(api.SpeedMap{}, api.ErrGap)},
		{steady(2), mapOf(11, 100, 20, 200), shown(api.SpeedMap{}, api.ErrGap)},
		{steady(3), mapOf(10, 100, 30, 300), shown(api.SpeedMap{}, api.ErrGap)},
	} {
		expect(t, x, shown(speed.Joined(x.a, x.b)), x.want)
	}
}
