package groove_test

import (
	"testing"

	"lacquer/api"
	"lacquer/groove"
)

// unchanged makes a call twice, spoils its first result in between, and expects that neither the arguments nor the second result differ (R3, R4).
func unchanged[T any](t *testing.T, what string, arguments any, call func() (T, api.Errno), spoil func(T)) {
	t.Helper()
	before := shown(arguments)
	first, e := call()
	want := shown(first, e)
	if e != api.OK {
		t.Error(what, e)
	}
	spoil(first)
	expect(t, what, shown(call()), want)
	expect(t, what, shown(arguments), before)
}

func spoilList(l []int) {
	for i := range l {
		l[i] += 1000
	}
}

func spoilGrid[G ~[][]int](g G) {
	for i := range g {
		spoilList(g[i])
		g[i] = append(g[i], -1)
	}
}

func pathOnly(path []int, cost int, e api.Errno) ([]int, api.Errno) {
	return path, e
}

// R3: the rows of one result do not share memory, either.
func TestGridsAreNotShared(t *testing.T) {
	m := image(dice(19), 9, 9)
	unchanged(t, "ring", m, func() ([]int, api.Errno) { return groove.RingOf(m, point(4, 4), 2) }, spoilList)
	v := view(4, 4, 1, 3, 40)
	unchanged(t, "strip", m, func() (api.GrooveStrip, api.Errno) { return groove.Unrolled(m, v) }, spoilGrid)
	for _, x := range []api.GrooveTask{example(), task([][]int{{3, 4, 5}}, 1)} {
		unchanged(t, "best path", x, func() ([]int, api.Errno) { return pathOnly(groove.BestPath(x)) }, spoilList)
		unchanged(t, "turn", x, func() ([]int, api.Errno) { return pathOnly(groove.TurnPath(x, 0)) }, spoilList)
		unchanged(t, "prices", x, func() (api.GroovePrices, api.Errno) { return groove.Prices(x) }, spoilGrid)
		p := pricesOf(t, x)
		unchanged(t, "bound", []any{x, p}, func() (int, api.Errno) { return groove.CheckPrices(x, p) }, func(int) {})
	}
	x, path := example(), []int{1, 2, 1}
	unchanged(t, "cost", []any{x, path}, func() (int, api.Errno) { return groove.CostOf(x, path) }, func(int) {})
	unchanged(t, "cracks", []any{x, path}, func() ([]api.Range, api.Errno) { return groove.CracksIn(x, path, 0) }, func(l []api.Range) { l[0].Lo = 9 })
}

// R3
func TestListsAreNotShared(t *testing.T) {
	l := numbers(dice(20), 12, -50, 50)
	gaps := []api.Range{{Lo: 0, Hi: 1}, {Lo: 4, Hi: 6}}
	turns := [][]int{{1, 9}, {2, 3}, {40}}
	unchanged(t, "velocities", l, func() ([]int, api.Errno) { return groove.VelocitiesOf(l) }, spoilList)
	unchanged(t, "positions", l, func() ([]int, api.Errno) { return groove.PositionsOf(5, l) }, spoilList)
	unchanged(t, "jumps", l, func() ([]int, api.Errno) { return groove.JumpsIn(l, 0) }, spoilList)
	unchanged(t, "bridged", []any{l, gaps}, func() ([]int, api.Errno) { return groove.Bridged(l, gaps) }, spoilList)
	unchanged(t, "not bridged", l, func() ([]int, api.Errno) { return groove.Bridged(l, nil) }, spoilList)
	unchanged(t, "breaks", turns, func() ([]int, api.Errno) { return groove.BreaksBetween(turns, 0) }, spoilList)
	unchanged(t, "parsed", "", func() ([]int, api.Errno) { return groove.ParsePath("1 2 3") }, spoilList)
	walls := []api.GrooveWalls{wall(1, 2), wall(-3, 4)}
	matrices := []api.GrooveMatrix{matrix(3, 1), matrix(1, 7)}
	unchanged(t, "widths", walls, func() ([]int, api.Errno) { return groove.WidthsOf(walls) }, spoilList)
	unchanged(t, "matrices", walls, func() ([]api.GrooveMatrix, api.Errno) { return groove.MatrixOf(walls) }, func(l []api.GrooveMatrix) { l[0].Lateral = 9 })
	unchanged(t, "walls", matrices, func() ([]api.GrooveWalls, api.Errno) { return groove.WallsOf(matrices) }, func(l []api.GrooveWalls) { l[0].Left = 9 })
	c := disc(span(4, 6))
	unchanged(t, "centers", c, func() (api.GrooveCenters, api.Errno) { return groove.CentersOf(c) }, func(api.GrooveCenters) {})
	unchanged(t, "center", c, func() (int, api.Errno) { return groove.CheckCenter(c, point(1, 0)) }, func(int) {})
}

// R5
func TestNilAndEmptyAreEqual(t *testing.T) {
	for _, l := range [][]int{nil, {}} {
		expect(t, "velocities", shown(groove.VelocitiesOf(l)), failed(api.ErrShape))
		expect(t, "positions", shown(groove.PositionsOf(4, l)), shown([]int{4}, api.OK))
		expect(t, "jumps", shown(groove.JumpsIn(l, 0)), failed(api.OK))
		expect(t, "bridged", shown(groove.Bridged(l, []api.Range{})), failed(api.OK))
		expect(t, "cost", shown(groove.CostOf(example(), l)), shown(0, api.ErrShape))
	}
	expect(t, "breaks", shown(groove.BreaksBetween([][]int{}, 0)), failed(api.OK))
	for _, walls := range [][]api.GrooveWalls{nil, {}} {
		expect(t, "widths", shown(groove.WidthsOf(walls)), failed(api.OK))
		expect(t, "matrices", shown(groove.MatrixOf(walls)), failed(api.OK))
	}
	for _, l := range [][]api.GrooveMatrix{nil, {}} {
		expect(t, "walls", shown(groove.WallsOf(l)), failed(api.OK))
	}
}
