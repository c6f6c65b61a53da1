package speed_test

import (
	"fmt"
	"math"
	"math/big"
	"math/rand/v2"
	"slices"
	"testing"

	"lacquer/api"
	"lacquer/speed"
)

const (
	maxPosition = 1000000
	maxTick     = 1000000000000
)

// shown returns the results of a call as a string in which a nil slice and an empty one are alike.
func shown(results ...any) string {
	return fmt.Sprintln(results...)
}

func expect(t *testing.T, what any, got, want string) {
	t.Helper()
	if got != want {
		t.Errorf("%+v: %swant %s", what, got, want)
	}
}

// beyond returns numbers that are just beyond the limits lo and hi, and extreme ones.
func beyond(lo, hi int) []int {
	return []int{lo - 1, hi + 1, math.MinInt, math.MinInt + 1, math.MaxInt - 1, math.MaxInt}
}

// dice returns a source of numbers that are always the same.
func dice(seed uint64) *rand.Rand {
	return rand.New(rand.NewPCG(seed, 3))
}

// between returns a number from lo to hi.
func between(d *rand.Rand, lo, hi int) int {
	return lo + d.IntN(hi-lo+1)
}

// ascending returns count different numbers from lo to hi.
func ascending(d *rand.Rand, count, lo, hi int) []int {
	var l []int
	for len(l) < count {
		if n := between(d, lo, hi); !slices.Contains(l, n) {
			l = append(l, n)
		}
	}
	slices.Sort(l)
	return l
}

func span(lo, hi int) api.Range {
	return api.Range{Lo: lo, Hi: hi}
}

// mapOf returns a map: for each node a position and a time.
func mapOf(l ...int) api.SpeedMap {
	var m api.SpeedMap
	for node := range slices.Chunk(l, 2) {
		m.Nodes = append(m.Nodes, api.SpeedNode{Position: node[0], Time: node[1]})
	}
	return m
}

// marksOf returns marks: for each a position and both ends of its range.
func marksOf(l ...int) []api.SpeedMark {
	var marks []api.SpeedMark
	for mark := range slices.Chunk(l, 3) {
		marks = append(marks, api.SpeedMark{Position: mark[0], Time: span(mark[1], mark[2])})
	}
	return marks
}

func evidence(lo, hi int, marks ...int) api.SpeedEvidence {
	return api.SpeedEvidence{Limits: span(lo, hi), Marks: marksOf(marks...)}
}

// steady returns a map with count nodes.
func steady(count int) api.SpeedMap {
	var m api.SpeedMap
	for i := range count {
		m.Nodes = append(m.Nodes, api.SpeedNode{Position: 10 * i, Time: 100 * i})
	}
	return m
}

// someMap returns a map with positions and times up to limits.
func someMap(d *rand.Rand, position, time int) api.SpeedMap {
	var m api.SpeedMap
	count := between(d, 2, min(20, position, time))
	times := ascending(d, count, 0, time)
	for i, p := range ascending(d, count, 0, position) {
		m.Nodes = append(m.Nodes, api.SpeedNode{Position: p, Time: times[i]})
	}
	return m
}

// someMaps returns small maps, ordinary ones, and some that are as large as possible.
func someMaps(seed uint64) []api.SpeedMap {
	d := dice(seed)
	l := []api.SpeedMap{
		mapOf(0, 0, 10, 100, 20, 220),
		mapOf(0, 0, 1, 1),
		mapOf(0, 0, maxPosition, maxTick),
		mapOf(0, 0, maxPosition, maxTick-1),
		mapOf(0, 1, 999999, 999999999999, maxPosition, maxTick),
		mapOf(0, 0, 1, 999999999999, maxPosition, maxTick),
		mapOf(0, 0, 999999, 1, maxPosition, maxTick),
		mapOf(maxPosition-1, maxTick-1, maxPosition, maxTick),
		mapOf(7, 0, maxPosition, 1),
		mapOf(999999, 0, maxPosition, maxTick),
		steady(20),
	}
	for range 60 {
		l = append(l, someMap(d, 40, 40), someMap(d, 300, 3000), someMap(d, 30, maxTick), someMap(d, maxPosition, maxTick))
	}
	return l
}

// fewPositions returns the positions of a map: all of them if there are few, or those at its nodes and some others.
func fewPositions(d *rand.Rand, m api.SpeedMap) []int {
	first, last := m.Nodes[0].Position, m.Nodes[len(m.Nodes)-1].Position
	var l []int
	if last-first < 400 {
		for p := first; p <= last; p++ {
			l = append(l, p)
		}
		return l
	}
	for _, node := range m.Nodes {
		l = append(l, max(first, node.Position-1), node.Position, min(last, node.Position+1))
	}
	for range 40 {
		l = append(l, between(d, first, last))
	}
	slices.Sort(l)
	return l
}

// on returns, at x, what lies straight between y0 at x0 and y1 at x1.
func on(x0, y0, x1, y1, x int) *big.Rat {
	y := big.NewRat(int64(y1-y0), int64(x1-x0))
	y.Mul(y, big.NewRat(int64(x-x0), 1))
	return y.Add(y, big.NewRat(int64(y0), 1))
}

// timeOf is the document's definition.
func timeOf(m api.SpeedMap, position int) *big.Rat {
	for i := 1; ; i++ {
		if a, b := m.Nodes[i-1], m.Nodes[i]; position <= b.Position {
			return on(a.Position, a.Time, b.Position, b.Time, position)
		}
	}
}

// positionOf is the document's definition, in parts of a sample.
func positionOf(m api.SpeedMap, time int) *big.Rat {
	for i := 1; ; i++ {
		if a, b := m.Nodes[i-1], m.Nodes[i]; time <= b.Time {
			return on(a.Time, 64*a.Position, b.Time, 64*b.Position, time)
		}
	}
}

// around returns a number, which is not below 0, rounded down and up.
func around(x *big.Rat) api.Range {
	down, rest := new(big.Int).QuoRem(x.Num(), x.Denom(), new(big.Int))
	lo := int(down.Int64())
	return span(lo, lo+rest.Sign())
}

func isIn(r api.Range, x *big.Rat) bool {
	return x.Cmp(big.NewRat(int64(r.Lo), 1)) >= 0 && x.Cmp(big.NewRat(int64(r.Hi), 1)) <= 0
}

// timesAt returns TimeAt, which is expected to have no error.
func timesAt(t *testing.T, m api.SpeedMap, position int) api.Range {
	t.Helper()
	r, e := speed.TimeAt(m, position)
	if e != api.OK {
		t.Fatal(m, position, e)
	}
	return r
}

// someEvidence returns evidence with few different numbers, so that it often permits just a few courses, or none.
func someEvidence(d *rand.Rand, marks int) api.SpeedEvidence {
	lo := between(d, 1, 3)
	e := evidence(lo, lo+between(d, 0, 2))
	for _, p := range ascending(d, marks, 0, lastPosition) {
		from := max(0, 2*p+between(d, -3, 6))
		e.Marks = append(e.Marks, api.SpeedMark{Position: p, Time: span(from, from+between(d, 0, 5))})
	}
	return e
}

// The courses of someEvidence are tried up to this position.
const lastPosition = 9

// coursesOf returns, for each position up to lastPosition, the whole times of all courses that have whole times at whole positions.
// As all limits are whole numbers, no course has times beyond them.
func coursesOf(e api.SpeedEvidence) [lastPosition + 1]map[int]bool {
	var times [lastPosition + 1]map[int]bool
	for p := range times {
		times[p] = map[int]bool{}
		for time := -100; time <= 100; time++ {
			times[p][time] = !slices.ContainsFunc(e.Marks, func(x api.SpeedMark) bool {
				return x.Position == p && (time < x.Time.Lo || time > x.Time.Hi)
			})
		}
	}
	leads := func(from, to int, sign int) {
		for time := range times[to] {
			found := false
			for rate := e.Limits.Lo; rate <= e.Limits.Hi; rate++ {
				found = found || times[from][time-sign*rate]
			}
			if !found {
				times[to][time] = false
			}
		}
	}
	for p := range lastPosition {
		leads(p, p+1, 1)
	}
	for p := lastPosition; p > 0; p-- {
		leads(p, p-1, -1)
	}
	return times
}

// rangeOf returns the range of the times that are true.
func rangeOf(times map[int]bool) (api.Range, bool) {
	r := span(math.MaxInt, math.MinInt)
	for time, found := range times {
		if found {
			r = span(min(r.Lo, time), max(r.Hi, time))
		}
	}
	return r, r.Lo <= r.Hi
}

// hasCourse tells whether a course is possible by some of the marks.
func hasCourse(e api.SpeedEvidence, without ...int) bool {
	left := api.SpeedEvidence{Limits: e.Limits}
	for i, mark := range e.Marks {
		if !slices.Contains(without, i) {
			left.Marks = append(left.Marks, mark)
		}
	}
	_, found := rangeOf(coursesOf(left)[0])
	return found
}
