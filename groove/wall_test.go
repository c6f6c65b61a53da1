package groove_test

import (
	"math"
	"testing"

	"lacquer/api"
	"lacquer/groove"
)

func wall(left, right int) api.GrooveWalls {
	return api.GrooveWalls{Left: left, Right: right}
}

func matrix(lateral, vertical int) api.GrooveMatrix {
	return api.GrooveMatrix{Lateral: lateral, Vertical: vertical}
}

// P2.7, example 8 and the edge cases; P2.11
func TestWalls(t *testing.T) {
	walls := []api.GrooveWalls{wall(3, 8), wall(5, 5), wall(-4, 3), wall(-8, -3), wall(0, 0), wall(-1000000, 1000000), wall(1000000, 1000000), wall(-1000000, -1000000)}
	widths := []int{5, 0, 7, 5, 0, 2000000, 0, 0}
	matrices := []api.GrooveMatrix{matrix(11, 5), matrix(10, 0), matrix(-1, 7), matrix(-11, 5), matrix(0, 0), matrix(0, 2000000), matrix(2000000, 0), matrix(-2000000, 0)}
	expect(t, "widths", shown(groove.WidthsOf(walls)), shown(widths, api.OK))
	expect(t, "matrices", shown(groove.MatrixOf(walls)), shown(matrices, api.OK))
	expect(t, "walls", shown(groove.WallsOf(matrices)), shown(walls, api.OK))
}

// P2.11
func TestWallsOfReversesMatrixOf(t *testing.T) {
	d := dice(17)
	for i := range 50 {
		most := []int{2, 1000, 1000000}[i%3]
		var walls []api.GrooveWalls
		for range d.IntN(201) {
			l := numbers(d, 2, -most, most)
			walls = append(walls, wall(min(l[0], l[1]), max(l[0], l[1])))
		}
		l, e := groove.MatrixOf(walls)
		if e != api.OK || len(l) != len(walls) {
			t.Fatal(walls, l, e)
		}
		for k, m := range l {
			if (m.Lateral-m.Vertical)%2 != 0 || m.Lateral != walls[k].Left+walls[k].Right || m.Vertical != walls[k].Right-walls[k].Left {
				t.Error(walls[k], m)
			}
		}
		expect(t, walls, shown(groove.WallsOf(l)), shown(walls, api.OK))
	}
}

type badWall struct {
	w api.GrooveWalls
	e api.Errno
}

// P2.7
func TestErrorsOfWalls(t *testing.T) {
	l := []badWall{{wall(1, 0), api.ErrOrder}, {wall(1000000, -1000000), api.ErrOrder}, {wall(-3, -4), api.ErrOrder}}
	for _, n := range beyond(-1000000, 1000000) {
		l = append(l, badWall{wall(n, 5), api.ErrRange}, badWall{wall(5, n), api.ErrRange}, badWall{wall(n, n), api.ErrRange}, badWall{wall(n, -n), api.ErrRange})
	}
	for _, bad := range l {
		for _, walls := range [][]api.GrooveWalls{{bad.w}, {wall(1, 2), bad.w, wall(1000001, 0)}, {wall(0, 0), wall(1, 2), bad.w, wall(2, 1)}} {
			expect(t, walls, shown(groove.WidthsOf(walls)), failed(bad.e))
			expect(t, walls, shown(groove.MatrixOf(walls)), failed(bad.e))
		}
	}
	many := make([]api.GrooveWalls, 201)
	expect(t, 200, shown(groove.WidthsOf(many[1:])), shown(make([]int, 200), api.OK))
	expect(t, 200, shown(groove.MatrixOf(many[1:])), shown(make([]api.GrooveMatrix, 200), api.OK))
	many[0] = wall(1000001, 0)
	expect(t, 201, shown(groove.WidthsOf(many)), failed(api.ErrLarge))
	expect(t, 201, shown(groove.MatrixOf(many)), failed(api.ErrLarge))
}

// P2.7
func TestErrorsOfMatrices(t *testing.T) {
	type badMatrix struct {
		m api.GrooveMatrix
		e api.Errno
	}
	l := []badMatrix{
		{matrix(11, 4), api.ErrForm}, {matrix(4, 11), api.ErrForm}, {matrix(-11, 4), api.ErrForm}, {matrix(4, -11), api.ErrForm}, {matrix(0, 1), api.ErrForm},
		{matrix(-1, 0), api.ErrForm}, {matrix(1999999, 2000000), api.ErrForm}, {matrix(1, -2000000), api.ErrForm},
		{matrix(4, -2), api.ErrOrder}, {matrix(5, -1), api.ErrOrder}, {matrix(2000000, -2000000), api.ErrOrder},
		{matrix(2000000, 2), api.ErrBreak}, {matrix(-2000000, 2), api.ErrBreak}, {matrix(2, 2000000), api.ErrBreak}, {matrix(-2, 2000000), api.ErrBreak},
		{matrix(1999999, 3), api.ErrBreak}, {matrix(2000000, 2000000), api.ErrBreak}, {matrix(-1999999, 3), api.ErrBreak},
		{matrix(math.MinInt, math.MinInt), api.ErrRange}, {matrix(math.MaxInt, math.MaxInt), api.ErrRange},
	}
	for _, n := range beyond(-2000000, 2000000) {
		l = append(l, badMatrix{matrix(n, 5), api.ErrRange}, badMatrix{matrix(5, n), api.ErrRange}, badMatrix{matrix(0, n), api.ErrRange}, badMatrix{matrix(n, 0), api.ErrRange})
	}
	for _, bad := range l {
		for _, l := range [][]api.GrooveMatrix{{bad.m}, {matrix(11, 5), bad.m, matrix(2000001, 0)}, {matrix(0, 0), matrix(3, 1), bad.m, matrix(0, 1)}} {
			expect(t, l, shown(groove.WallsOf(l)), failed(bad.e))
		}
	}
	for _, m := range []api.GrooveMatrix{matrix(1999999, 1), matrix(-1999999, 1), matrix(1, 1999999), matrix(-1, 1999999)} {
		want := wall((m.Lateral-m.Vertical)/2, (m.Lateral+m.Vertical)/2)
		expect(t, m, shown(groove.WallsOf([]api.GrooveMatrix{m})), shown([]api.GrooveWalls{want}, api.OK))
	}
	many := make([]api.GrooveMatrix, 201)
	expect(t, 200, shown(groove.WallsOf(many[1:])), shown(make([]api.GrooveWalls, 200), api.OK))
	many[0] = matrix(0, 1)
	expect(t, 201, shown(groove.WallsOf(many)), failed(api.ErrLarge))
}
