package groove_test

import (
	"math/rand/v2"
	"slices"
	"testing"

	"lacquer/api"
	"lacquer/groove"
)

func image(d *rand.Rand, rows, columns int) api.GrooveImage {
	return api.GrooveImage{Rows: grid(d, rows, columns, 0, 255)}
}

func point(x, y int) api.GroovePoint {
	return api.GroovePoint{X: x, Y: y}
}

func view(x, y, lo, hi, steps int) api.GrooveView {
	return api.GrooveView{Center: point(x, y), Radii: api.Range{Lo: lo, Hi: hi}, Steps: steps}
}

// ringIn is the document's definition, written out.
func ringIn(m api.GrooveImage, x, y, r int) []int {
	var l []int
	add := func(a, b int) { l = append(l, m.Rows[y+b][x+a]) }
	for b := 0; b <= r; b++ {
		add(r, b)
	}
	for a := r - 1; a >= -r; a-- {
		add(a, r)
	}
	for b := r - 1; b >= -r; b-- {
		add(-r, b)
	}
	for a := -r + 1; a <= r; a++ {
		add(a, -r)
	}
	for b := -r + 1; b <= -1; b++ {
		add(r, b)
	}
	return l
}

func isInside(m api.GrooveImage, x, y, r int) bool {
	return x-r >= 0 && y-r >= 0 && x+r < len(m.Rows[0]) && y+r < len(m.Rows)
}

// P2.1
func TestCheckImage(t *testing.T) {
	for _, g := range goodGrids(24, 24) {
		expect(t, g, shown(groove.CheckImage(api.GrooveImage{Rows: g})), shown(api.OK))
	}
	for _, bad := range badGrids(24, 24) {
		m := api.GrooveImage{Rows: bad.g}
		expect(t, bad, shown(groove.CheckImage(m)), shown(bad.e))
		for _, r := range []int{0, 1, 25} {
			expect(t, bad, shown(groove.RingOf(m, point(-1, 99), r)), failed(bad.e))
			expect(t, bad, shown(groove.Unrolled(m, view(-1, 99, r, 0, r))), failed(bad.e))
		}
	}
}

// P2.1, example 1
func TestRingOf(t *testing.T) {
	m := api.GrooveImage{Rows: [][]int{{1, 2, 3}, {4, 5, 6}, {7, 8, 9}}}
	expect(t, m, shown(groove.RingOf(m, point(1, 1), 1)), shown([]int{6, 9, 8, 7, 4, 1, 2, 3}, api.OK))
	for _, size := range [][2]int{{1, 1}, {2, 3}, {3, 3}, {3, 7}, {8, 5}, {24, 24}, {24, 11}, {9, 24}, {23, 23}} {
		m := image(dice(2), size[0], size[1])
		for x := -1; x <= size[1]; x++ {
			for y := -1; y <= size[0]; y++ {
				for r := 1; r <= 24; r++ {
					want := failed(api.ErrBreak)
					if isInside(m, x, y, r) {
						want = shown(ringIn(m, x, y, r), api.OK)
					}
					expect(t, []int{x, y, r}, shown(groove.RingOf(m, point(x, y), r)), want)
				}
			}
		}
	}
}

// P2.1
func TestRingsThatDoNotExist(t *testing.T) {
	m := image(dice(3), 24, 24)
	for _, r := range append(beyond(1, 24), -3) {
		expect(t, r, shown(groove.RingOf(m, point(12, 12), r)), failed(api.ErrRange))
		expect(t, r, shown(groove.RingOf(m, point(99, -99), r)), failed(api.ErrRange))
	}
	for _, far := range append([]int{-1, 0, 23, 24, 1 << 32}, extremes...) {
		for _, center := range []api.GroovePoint{point(far, 12), point(12, far), point(far, far)} {
			expect(t, center, shown(groove.RingOf(m, center, 1)), failed(api.ErrBreak))
			expect(t, center, shown(groove.RingOf(m, center, 24)), failed(api.ErrBreak))
			v := view(center.X, center.Y, 1, 1, 4)
			expect(t, v, shown(groove.Unrolled(m, v)), failed(api.ErrBreak))
		}
	}
}

// unrolled is the document's definition.
func unrolled(m api.GrooveImage, v api.GrooveView) [][]int {
	var strip [][]int
	for k := range v.Steps {
		var row []int
		for r := v.Radii.Lo; r <= v.Radii.Hi; r++ {
			row = append(row, ringIn(m, v.Center.X, v.Center.Y, r)[8*r*k/v.Steps])
		}
		strip = append(strip, row)
	}
	return strip
}

// P2.1, example 1: steps also leave pixels out, and repeat them.
func TestUnrolled(t *testing.T) {
	small := api.GrooveImage{Rows: [][]int{{1, 2, 3}, {4, 5, 6}, {7, 8, 9}}}
	expect(t, small, shown(groove.Unrolled(small, view(1, 1, 1, 1, 4))), shown([][]int{{6}, {8}, {4}, {2}}, api.OK))
	expect(t, small, shown(groove.Unrolled(small, view(1, 1, 1, 1, 1))), shown([][]int{{6}}, api.OK))
	expect(t, small, shown(groove.Unrolled(small, view(1, 1, 1, 1, 3))), shown([][]int{{6}, {8}, {1}}, api.OK))
	expect(t, small, shown(groove.Unrolled(small, view(1, 1, 1, 1, 16))),
		shown([][]int{{6}, {6}, {9}, {9}, {8}, {8}, {7}, {7}, {4}, {4}, {1}, {1}, {2}, {2}, {3}, {3}}, api.OK))
	m := image(dice(4), 24, 24)
	for lo := 1; lo <= 11; lo++ {
		for hi := lo; hi <= 11; hi++ {
			for steps := 1; steps <= 40; steps++ {
				v := view(11, 12, lo, hi, steps)
				expect(t, v, shown(groove.Unrolled(m, v)), shown(unrolled(m, v), api.OK))
			}
		}
	}
}

// P2.1
func TestUnrolledErrors(t *testing.T) {
	m := image(dice(5), 24, 20)
	for _, n := range beyond(1, 24) {
		for _, v := range []api.GrooveView{view(9, 9, n, 3, 4), view(9, 9, 1, n, 4), view(9, 9, n, n, 4), view(99, 99, n, 3, 4)} {
			expect(t, v, shown(groove.Unrolled(m, v)), failed(api.ErrRange))
		}
	}
	for _, n := range beyond(1, 40) {
		for _, v := range []api.GrooveView{view(9, 9, 1, 3, n), view(9, 9, 3, 1, n), view(9, 9, 1, 24, n), view(-9, 9, 1, 3, n)} {
			expect(t, v, shown(groove.Unrolled(m, v)), failed(api.ErrRange))
		}
	}
	for _, x := range []struct {
		v api.GrooveView
		e api.Errno
	}{
		{view(9, 9, 3, 2, 4), api.ErrOrder}, {view(99, 9, 24, 1, 4), api.ErrOrder}, {view(9, 9, 1, 13, 4), api.ErrLarge}, {view(99, 9, 12, 24, 4), api.ErrLarge},
		{view(9, 9, 1, 24, 40), api.ErrLarge}, {view(9, 9, 1, 12, 4), api.ErrBreak}, {view(9, 9, 13, 24, 4), api.ErrBreak}, {view(9, 9, 1, 10, 4), api.ErrBreak},
		{view(9, 9, 10, 10, 4), api.ErrBreak}, {view(10, 9, 1, 10, 4), api.ErrBreak}, {view(9, 15, 1, 9, 4), api.ErrBreak}, {view(11, 12, 9, 9, 4), api.ErrBreak},
	} {
		expect(t, x.v, shown(groove.Unrolled(m, x.v)), failed(x.e))
	}
	for _, v := range []api.GrooveView{view(9, 9, 1, 9, 4), view(10, 14, 9, 9, 40), view(1, 1, 1, 1, 1), view(18, 22, 1, 1, 1)} {
		expect(t, v, shown(groove.Unrolled(m, v)), shown(unrolled(m, v), api.OK))
	}
}

func ringOf(t *testing.T, m api.GrooveImage, center api.GroovePoint, r int) []int {
	t.Helper()
	l, e := groove.RingOf(m, center, r)
	if e != api.OK || len(l) != 8*r {
		t.Fatalf("ring %d around %v: %v, error %d", r, center, l, e)
	}
	return l
}

// P2.9: an image of 225 different pixels.
func TestRingsContainEachPixelOnce(t *testing.T) {
	m := api.GrooveImage{Rows: filled(15, 15, 0)}
	for y := range 15 {
		for x := range 15 {
			m.Rows[y][x] = 15*y + x
		}
	}
	for r := 1; r <= 7; r++ {
		for x := r; x < 15-r; x++ {
			for y := r; y < 15-r; y++ {
				found := []int{m.Rows[y][x]}
				for i := 1; i <= r; i++ {
					found = append(found, ringOf(t, m, point(x, y), i)...)
				}
				var want []int
				for _, row := range m.Rows[y-r : y+r+1] {
					want = append(want, row[x-r:x+r+1]...)
				}
				slices.Sort(found)
				expect(t, []int{x, y, r}, shown(found), shown(want))
			}
		}
	}
}

// P2.9
func TestTurnedImagesHaveShiftedRings(t *testing.T) {
	const side, center = 23, 11
	m := image(dice(6), side, side)
	turned := api.GrooveImage{Rows: filled(side, side, 0)}
	for a := -center; a <= center; a++ {
		for b := -center; b <= center; b++ {
			turned.Rows[center+a][center-b] = m.Rows[center+b][center+a]
		}
	}
	for r := 1; r <= center; r++ {
		ring := ringOf(t, m, point(center, center), r)
		shifted := ringOf(t, turned, point(center, center), r)
		expect(t, r, shown(append(shifted[2*r:], shifted[:2*r]...)), shown(ring))
	}
}
