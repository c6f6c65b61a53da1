package groove_test

import (
	"testing"

	"lacquer/api"
	"lacquer/groove"
)

// P2.5 and P2.6: the errors of positions come before all others.
func TestErrorsOfPositions(t *testing.T) {
	for _, bad := range allBadPositions() {
		expect(t, bad, shown(groove.VelocitiesOf(bad.l)), failed(bad.e))
		expect(t, bad, shown(groove.JumpsIn(bad.l, 5)), failed(bad.e))
		expect(t, bad, shown(groove.JumpsIn(bad.l, -1)), failed(bad.e))
		expect(t, bad, shown(groove.Bridged(bad.l, nil)), failed(bad.e))
		expect(t, bad, shown(groove.Bridged(bad.l, []api.Range{{Lo: -1}})), failed(bad.e))
		expect(t, bad, shown(groove.BreaksBetween([][]int{{1}, bad.l, {}}, -1)), failed(bad.e))
	}
}

// P2.5, example 6
func TestVelocitiesOf(t *testing.T) {
	for _, x := range []struct{ positions, velocities []int }{
		{[]int{3, 5, 4}, []int{2, -1}},
		{[]int{7}, nil},
		{[]int{-1000000, 1000000, -1000000}, []int{2000000, -2000000}},
		{make([]int, 200), make([]int, 199)},
	} {
		expect(t, x, shown(groove.VelocitiesOf(x.positions)), shown(x.velocities, api.OK))
	}
	expect(t, "none", shown(groove.VelocitiesOf(nil)), failed(api.ErrShape))
}

// P2.5
func TestPositionsOf(t *testing.T) {
	for _, x := range []struct {
		start                 int
		velocities, positions []int
	}{
		{3, []int{2, -1}, []int{3, 5, 4}},
		{-7, nil, []int{-7}},
		{-1000000, []int{2000000, -2000000, 0}, []int{-1000000, 1000000, -1000000, -1000000}},
		{1000000, []int{-2000000, 1, 1999999}, []int{1000000, -1000000, -999999, 1000000}},
		{0, make([]int, 199), make([]int, 200)},
	} {
		expect(t, x, shown(groove.PositionsOf(x.start, x.velocities)), shown(x.positions, api.OK))
	}
}

// P2.5
func TestPositionsOfErrors(t *testing.T) {
	for _, start := range beyond(-1000000, 1000000) {
		for _, velocities := range [][]int{nil, {1, 2}, make([]int, 200), {2000001}, {-start}} {
			expect(t, start, shown(groove.PositionsOf(start, velocities)), failed(api.ErrRange))
		}
	}
	for _, n := range beyond(-2000000, 2000000) {
		for _, start := range []int{0, 1000000, -1000000} {
			expect(t, n, shown(groove.PositionsOf(start, []int{n})), failed(api.ErrRange))
			expect(t, n, shown(groove.PositionsOf(start, []int{0, 0, n, -n})), failed(api.ErrRange))
		}
	}
	for _, x := range []struct {
		start      int
		velocities []int
		e          api.Errno
	}{
		{0, make([]int, 200), api.ErrLarge}, {0, append(make([]int, 199), 2000001), api.ErrLarge}, {5, make([]int, 1000), api.ErrLarge},
		{0, []int{1000001}, api.ErrBreak}, {0, []int{-1000001}, api.ErrBreak}, {1000000, []int{1}, api.ErrBreak}, {-1000000, []int{-1}, api.ErrBreak},
		{1, []int{2000000}, api.ErrBreak}, {-1, []int{-2000000}, api.ErrBreak}, {0, []int{1, 2, 999998}, api.ErrBreak}, {0, []int{1000001, -1}, api.ErrBreak},
		{0, []int{2000000, 2000001}, api.ErrBreak}, {0, []int{2000001, 2000000}, api.ErrRange}, {0, append(make([]int, 198), -1000001), api.ErrBreak},
	} {
		expect(t, x, shown(groove.PositionsOf(x.start, x.velocities)), failed(x.e))
	}
}

// P2.11
func TestPositionsOfReversesVelocitiesOf(t *testing.T) {
	d := dice(15)
	for i := range 100 {
		most := []int{1, 50, 1000000}[i%3]
		positions := numbers(d, 1+d.IntN(200), -most, most)
		velocities, e := groove.VelocitiesOf(positions)
		if e != api.OK || len(velocities) != len(positions)-1 {
			t.Fatal(positions, velocities, e)
		}
		expect(t, positions, shown(groove.PositionsOf(positions[0], velocities)), shown(positions, api.OK))
	}
}

// P2.5, example 6 and the edge case
func TestJumpsIn(t *testing.T) {
	for _, x := range []struct {
		positions []int
		limit     int
		jumps     []int
	}{
		{[]int{3, 5, 4}, 1, []int{1}}, {[]int{3, 5, 4}, 0, []int{1, 2}}, {[]int{3, 5, 4}, 2, nil}, {[]int{4, 4, 5, 5, 4, 4}, 0, []int{2, 4}},
		{[]int{9, 6, 9, 9}, 2, []int{1, 2}}, {[]int{9, 6, 9, 9}, 3, nil}, {nil, 0, nil}, {[]int{5}, 0, nil},
		{[]int{-1000000, 1000000, -1000000}, 1999999, []int{1, 2}}, {[]int{-1000000, 1000000, -1000000}, 2000000, nil},
		{append(make([]int, 199), 1), 0, []int{199}},
	} {
		expect(t, x, shown(groove.JumpsIn(x.positions, x.limit)), shown(x.jumps, api.OK))
	}
	for _, limit := range beyond(0, 2000000) {
		for _, positions := range [][]int{nil, {3, 5, 4}} {
			expect(t, limit, shown(groove.JumpsIn(positions, limit)), failed(api.ErrRange))
		}
	}
}
