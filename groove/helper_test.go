package groove_test

import (
	"fmt"
	"math"
	"math/rand/v2"
	"testing"

	"lacquer/api"
)

// extremes are numbers that no part of a valid argument may have.
var extremes = []int{math.MinInt, math.MinInt + 1, math.MaxInt - 1, math.MaxInt}

// shown returns the results of a call as a string in which a nil slice and an empty one are alike.
func shown(results ...any) string {
	return fmt.Sprintln(results...)
}

// failed is shown for an error of a call that otherwise returns a slice.
func failed(e api.Errno) string {
	return shown([]int{}, e)
}

func expect(t *testing.T, what any, got, want string) {
	t.Helper()
	if got != want {
		t.Errorf("%+v: %swant %s", what, got, want)
	}
}

// beyond returns numbers that are just beyond the limits lo and hi, and the extremes.
func beyond(lo, hi int) []int {
	return append([]int{lo - 1, hi + 1}, extremes...)
}

// dice returns a source of numbers that are always the same.
func dice(seed uint64) *rand.Rand {
	return rand.New(rand.NewPCG(seed, 2))
}

// numbers returns count numbers from lo to hi.
func numbers(d *rand.Rand, count, lo, hi int) []int {
	l := make([]int, count)
	for i := range l {
		l[i] = lo + d.IntN(hi-lo+1)
	}
	return l
}

// grid returns rows of numbers from lo to hi.
func grid(d *rand.Rand, rows, columns, lo, hi int) [][]int {
	g := make([][]int, rows)
	for i := range g {
		g[i] = numbers(d, columns, lo, hi)
	}
	return g
}

// filled returns rows of one number.
func filled(rows, columns, n int) [][]int {
	return grid(dice(0), rows, columns, n, n)
}

// badGrid is a grid that has an error.
type badGrid struct {
	g [][]int
	e api.Errno
}

// badGrids returns grids of values that are not valid, with their errors.
func badGrids(maxRows, maxColumns int) []badGrid {
	l := []badGrid{
		{nil, api.ErrShape},
		{[][]int{}, api.ErrShape},
		{[][]int{nil}, api.ErrShape},
		{[][]int{{}}, api.ErrShape},
		{[][]int{{}, {1}}, api.ErrShape},
		{filled(maxRows+1, 0, 0), api.ErrShape},
		{filled(maxRows+1, 1, 0), api.ErrLarge},
		{filled(1, maxColumns+1, 0), api.ErrLarge},
		{filled(maxRows+1, 1, 256), api.ErrLarge},
		{filled(1, maxColumns+1, -1), api.ErrLarge},
		{[][]int{{1, 2}, {1}}, api.ErrShape},
		{[][]int{{1, 2}, {1, 2, 3}}, api.ErrShape},
		{[][]int{{1, 2}, {}}, api.ErrShape},
		{[][]int{{1, 2}, {1, 2}, nil}, api.ErrShape},
		{[][]int{{1}, make([]int, maxColumns+1)}, api.ErrShape},
		{[][]int{{1, 2}, {256}}, api.ErrShape},
		{[][]int{{1, 2}, {1}, {256, 1}}, api.ErrShape},
		{[][]int{{1, 256}, {1}}, api.ErrRange},
		{[][]int{{1, 2}, {-1, 2}, {1}}, api.ErrRange},
	}
	for _, n := range beyond(0, 255) {
		for _, at := range [][2]int{{0, 0}, {0, maxColumns - 1}, {maxRows - 1, 0}, {maxRows - 1, maxColumns - 1}} {
			g := filled(maxRows, maxColumns, 255)
			g[at[0]][at[1]] = n
			l = append(l, badGrid{g, api.ErrRange})
		}
	}
	return l
}

// goodGrids returns grids of values that are valid and as great as possible, or as small.
func goodGrids(maxRows, maxColumns int) [][][]int {
	return [][][]int{
		{{0}}, {{255}}, filled(maxRows, 1, 0), filled(1, maxColumns, 255),
		filled(maxRows, maxColumns, 0), filled(maxRows, maxColumns, 255), grid(dice(1), maxRows, maxColumns, 0, 255),
	}
}

// badPositions are positions that are not valid, with their errors.
type badPositions struct {
	l []int
	e api.Errno
}

func allBadPositions() []badPositions {
	l := []badPositions{
		{make([]int, 201), api.ErrLarge},
		{append(make([]int, 200), 1000001), api.ErrLarge},
		{append([]int{1000001}, make([]int, 200)...), api.ErrLarge},
	}
	for _, n := range beyond(-1000000, 1000000) {
		l = append(l, badPositions{[]int{n}, api.ErrRange}, badPositions{[]int{1, 2, n}, api.ErrRange}, badPositions{append(make([]int, 199), n), api.ErrRange})
	}
	return l
}
