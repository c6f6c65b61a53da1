package groove_test

import (
	"math/rand/v2"
	"slices"
	"testing"

	"lacquer/api"
	"lacquer/groove"
)

func task(strip [][]int, bend int) api.GrooveTask {
	return api.GrooveTask{Strip: strip, Bend: bend}
}

// example is the task of the examples 3 to 5.
func example() api.GrooveTask {
	return task([][]int{{5, 1, 9}, {4, 4, 0}, {7, 2, 3}}, 1)
}

// smallTask is a task with few different values, so that many paths cost the same.
func smallTask(d *rand.Rand) api.GrooveTask {
	most := []int{0, 1, 2, 9}[d.IntN(4)]
	return task(grid(d, 1+d.IntN(6), 1+d.IntN(5), 0, most), d.IntN(4))
}

func largeTask(d *rand.Rand) api.GrooveTask {
	most := []int{1, 9, 255}[d.IntN(3)]
	bend := []int{0, 1, 30, 1000}[d.IntN(4)]
	return task(grid(d, 1+d.IntN(40), 1+d.IntN(12), 0, most), bend)
}

// costOf is the document's definition.
func costOf(t api.GrooveTask, path []int) int {
	cost := 0
	for row, column := range path {
		cost += t.Strip[row][column]
		if row > 0 && path[row-1] != column {
			cost += t.Bend
		}
	}
	return cost
}

// pathsOf returns all paths in lexicographic order.
func pathsOf(t api.GrooveTask) [][]int {
	paths := [][]int{nil}
	for range t.Strip {
		var longer [][]int
		for _, path := range paths {
			for column := range t.Strip[0] {
				if len(path) == 0 || column-path[len(path)-1] >= -1 && column-path[len(path)-1] <= 1 {
					longer = append(longer, append(slices.Clone(path), column))
				}
			}
		}
		paths = longer
	}
	return paths
}

// firstOf returns the first path of minimum cost, as a call shows it.
func firstOf(t api.GrooveTask, paths [][]int) string {
	if len(paths) == 0 {
		return shown([]int{}, 0, api.ErrNone)
	}
	best := slices.MinFunc(paths, func(a, b []int) int { return costOf(t, a) - costOf(t, b) })
	return shown(best, costOf(t, best), api.OK)
}

// turnsOf returns the turns with a pitch.
func turnsOf(paths [][]int, pitch int) [][]int {
	return slices.DeleteFunc(slices.Clone(paths), func(path []int) bool { return path[len(path)-1] != path[0]+pitch })
}

// fromEach returns, for each first and last column of paths, the lexicographically first path of minimum cost between them, if there is one.
func fromEach(t api.GrooveTask) [][]int {
	var l [][]int
	for first := range t.Strip[0] {
		ends := make([][]int, len(t.Strip[0]))
		ends[first] = []int{first}
		for row := 1; row < len(t.Strip); row++ {
			next := make([][]int, len(ends))
			for column := range next {
				for before := max(column-1, 0); before <= min(column+1, len(ends)-1); before++ {
					if ends[before] == nil {
						continue
					}
					path := append(slices.Clone(ends[before]), column)
					if next[column] == nil || costOf(t, path) < costOf(t, next[column]) || costOf(t, path) == costOf(t, next[column]) && slices.Compare(path, next[column]) < 0 {
						next[column] = path
					}
				}
			}
			ends = next
		}
		for _, path := range ends {
			if path != nil {
				l = append(l, path)
			}
		}
	}
	slices.SortFunc(l, slices.Compare)
	return l
}

type badTask struct {
	t api.GrooveTask
	e api.Errno
}

func badTasks() []badTask {
	var l []badTask
	for _, bad := range badGrids(40, 12) {
		l = append(l, badTask{task(bad.g, 1), bad.e}, badTask{task(bad.g, -1), bad.e})
	}
	for _, bend := range beyond(0, 1000) {
		l = append(l, badTask{task([][]int{{1}}, bend), api.ErrRange}, badTask{task(filled(40, 12, 0), bend), api.ErrRange})
	}
	return l
}

// P2.3
func TestCheckStrip(t *testing.T) {
	for _, g := range goodGrids(40, 12) {
		expect(t, g, shown(groove.CheckStrip(g)), shown(api.OK))
	}
	for _, bad := range badGrids(40, 12) {
		expect(t, bad, shown(groove.CheckStrip(bad.g)), shown(bad.e))
	}
}

// P2.3 to P2.6: the error of the task comes before all others.
func TestErrorsOfTasks(t *testing.T) {
	for _, bad := range badTasks() {
		for _, path := range [][]int{nil, {0}, {-1, 9, 99}} {
			expect(t, bad, shown(groove.CostOf(bad.t, path)), shown(0, bad.e))
			expect(t, bad, shown(groove.CracksIn(bad.t, path, -1)), failed(bad.e))
		}
		expect(t, bad, shown(groove.BestPath(bad.t)), shown([]int{}, 0, bad.e))
		for _, pitch := range []int{0, 1, 13} {
			expect(t, bad, shown(groove.TurnPath(bad.t, pitch)), shown([]int{}, 0, bad.e))
		}
		expect(t, bad, shown(groove.Prices(bad.t)), failed(bad.e))
		for _, p := range []api.GroovePrices{nil, {{0}}, {{1000001}}} {
			expect(t, bad, shown(groove.CheckPrices(bad.t, p)), shown(0, bad.e))
		}
	}
}

// P2.3, example 3
func TestCostOf(t *testing.T) {
	for _, x := range []struct {
		path []int
		cost int
	}{
		{[]int{1, 1, 1}, 7}, {[]int{1, 2, 1}, 5}, {[]int{1, 2, 2}, 5}, {[]int{1, 1, 0}, 13}, {[]int{2, 1, 1}, 16}, {[]int{2, 2, 1}, 12}, {[]int{1, 0, 0}, 13},
	} {
		expect(t, x.path, shown(groove.CostOf(example(), x.path)), shown(x.cost, api.OK))
	}
	d := dice(9)
	for range 30 {
		x := smallTask(d)
		for _, path := range pathsOf(x) {
			expect(t, x, shown(groove.CostOf(x, path)), shown(costOf(x, path), api.OK))
		}
	}
	zigzag := make([]int, 40)
	for i := range zigzag {
		zigzag[i] = 10 + i%2
	}
	expect(t, "most bends", shown(groove.CostOf(task(filled(40, 12, 255), 1000), zigzag)), shown(40*255+39*1000, api.OK))
}

type badPath struct {
	path []int
	e    api.Errno
}

// badPaths returns paths that are not valid for a strip of three rows and three columns.
func badPaths() []badPath {
	l := []badPath{
		{nil, api.ErrShape}, {[]int{1}, api.ErrShape}, {[]int{1, 1}, api.ErrShape}, {[]int{1, 1, 1, 1}, api.ErrShape}, {[]int{9, 9}, api.ErrShape},
		{[]int{0, 2, 1}, api.ErrOrder}, {[]int{2, 0, 0}, api.ErrOrder}, {[]int{0, 0, 2}, api.ErrOrder}, {[]int{2, 2, 0}, api.ErrOrder},
		{[]int{0, 2, 3}, api.ErrOrder}, {[]int{0, 3, 0}, api.ErrMissing}, {[]int{-1, 2, 0}, api.ErrMissing}, {[]int{0, 9, 1}, api.ErrMissing},
	}
	for _, n := range beyond(0, 2) {
		for _, path := range [][]int{{n, 1, 1}, {1, n, 1}, {2, 2, n}, {n, n, n}} {
			l = append(l, badPath{path, api.ErrMissing})
		}
	}
	return l
}

// P2.3 and P2.6
func TestErrorsOfPaths(t *testing.T) {
	for _, bad := range badPaths() {
		expect(t, bad, shown(groove.CostOf(example(), bad.path)), shown(0, bad.e))
		for _, limit := range []int{0, -1} {
			expect(t, bad, shown(groove.CracksIn(example(), bad.path, limit)), failed(bad.e))
		}
	}
}

// P2.3, examples 3 and 4
func TestPathsOfTheExample(t *testing.T) {
	expect(t, "best", shown(groove.BestPath(example())), shown([]int{1, 2, 1}, 5, api.OK))
	expect(t, "pitch 0", shown(groove.TurnPath(example(), 0)), shown([]int{1, 2, 1}, 5, api.OK))
	expect(t, "pitch 1", shown(groove.TurnPath(example(), 1)), shown([]int{1, 2, 2}, 5, api.OK))
	expect(t, "pitch -1", shown(groove.TurnPath(example(), -1)), shown([]int{2, 2, 1}, 12, api.OK))
	expect(t, "pitch 2", shown(groove.TurnPath(example(), 2)), shown([]int{0, 1, 2}, 14, api.OK))
	for _, pitch := range []int{3, -3, 12, -12} {
		expect(t, pitch, shown(groove.TurnPath(example(), pitch)), shown([]int{}, 0, api.ErrNone))
	}
	for _, pitch := range beyond(-12, 12) {
		expect(t, pitch, shown(groove.TurnPath(example(), pitch)), shown([]int{}, 0, api.ErrRange))
	}
}

// P2.3, the edge cases
func TestStripsOfOneRowOrColumn(t *testing.T) {
	row := task([][]int{{9, 3, 5, 3}}, 1000)
	expect(t, row, shown(groove.BestPath(row)), shown([]int{1}, 3, api.OK))
	expect(t, row, shown(groove.TurnPath(row, 0)), shown([]int{1}, 3, api.OK))
	expect(t, row, shown(groove.CostOf(row, []int{0})), shown(9, api.OK))
	column := task([][]int{{9}, {3}, {255}}, 1000)
	expect(t, column, shown(groove.BestPath(column)), shown([]int{0, 0, 0}, 267, api.OK))
	expect(t, column, shown(groove.TurnPath(column, 0)), shown([]int{0, 0, 0}, 267, api.OK))
	for _, pitch := range []int{1, -1, 4, -4} {
		expect(t, pitch, shown(groove.TurnPath(row, pitch)), shown([]int{}, 0, api.ErrNone))
		expect(t, pitch, shown(groove.TurnPath(column, pitch)), shown([]int{}, 0, api.ErrNone))
	}
}

// expectPaths compares the best path and all turns with the first ones of paths.
func expectPaths(t *testing.T, x api.GrooveTask, paths [][]int) {
	t.Helper()
	expect(t, x, shown(groove.BestPath(x)), firstOf(x, paths))
	for pitch := -12; pitch <= 12; pitch++ {
		expect(t, x, shown(groove.TurnPath(x, pitch)), firstOf(x, turnsOf(paths, pitch)))
	}
}

// P2.3: all paths of small strips are tried.
func TestPathsOfSmallStrips(t *testing.T) {
	d := dice(10)
	for range 400 {
		x := smallTask(d)
		expectPaths(t, x, pathsOf(x))
	}
}

// P2.3
func TestPathsOfLargeStrips(t *testing.T) {
	d := dice(11)
	tasks := []api.GrooveTask{task(filled(40, 12, 255), 1000), task(filled(40, 12, 0), 0), task(filled(12, 12, 255), 1000), task(filled(11, 12, 255), 1000)}
	for range 40 {
		tasks = append(tasks, largeTask(d))
	}
	for _, x := range tasks {
		expectPaths(t, x, fromEach(x))
	}
}

// P2.10
func TestNoTurnCostsLess(t *testing.T) {
	d := dice(12)
	for range 60 {
		x := largeTask(d)
		best, least, e := groove.BestPath(x)
		if e != api.OK {
			t.Fatal(x, e)
		}
		for pitch := -12; pitch <= 12; pitch++ {
			if _, cost, e := groove.TurnPath(x, pitch); e == api.OK && cost < least {
				t.Error(x, pitch, cost, least)
			}
		}
		expect(t, x, shown(groove.TurnPath(x, best[len(best)-1]-best[0])), shown(best, least, api.OK))
		expect(t, x, shown(groove.CostOf(x, best)), shown(least, api.OK))
	}
}
