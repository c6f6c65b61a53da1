package groove_test

import (
	"slices"
	"testing"

	"lacquer/api"
	"lacquer/groove"
)

// P2.6
func TestCracksIn(t *testing.T) {
	line := task([][]int{{5, 0}, {6, 0}, {0, 0}, {7, 8}, {1, 9}, {255, 0}}, 3)
	straight, bent := []int{0, 0, 0, 0, 0, 0}, []int{1, 1, 0, 1, 1, 0}
	for _, x := range []struct {
		t      api.GrooveTask
		path   []int
		limit  int
		cracks []api.Range
	}{
		{example(), []int{0, 1, 2}, 3, []api.Range{{Lo: 0, Hi: 1}}},
		{example(), []int{0, 1, 2}, 2, []api.Range{{Lo: 0, Hi: 2}}},
		{example(), []int{0, 1, 2}, 4, []api.Range{{Lo: 0, Hi: 0}}},
		{example(), []int{0, 1, 2}, 5, nil},
		{line, straight, 0, []api.Range{{Lo: 0, Hi: 1}, {Lo: 3, Hi: 5}}},
		{line, straight, 5, []api.Range{{Lo: 1, Hi: 1}, {Lo: 3, Hi: 3}, {Lo: 5, Hi: 5}}},
		{line, straight, 6, []api.Range{{Lo: 3, Hi: 3}, {Lo: 5, Hi: 5}}},
		{line, straight, 254, []api.Range{{Lo: 5, Hi: 5}}},
		{line, straight, 255, nil},
		{line, bent, 7, []api.Range{{Lo: 3, Hi: 5}}},
		{line, bent, 8, []api.Range{{Lo: 4, Hi: 5}}},
		{task([][]int{{1}}, 0), []int{0}, 0, []api.Range{{}}},
		{task([][]int{{0}}, 0), []int{0}, 0, nil},
		{task(filled(40, 12, 255), 0), slices.Repeat([]int{11}, 40), 254, []api.Range{{Lo: 0, Hi: 39}}},
	} {
		expect(t, x, shown(groove.CracksIn(x.t, x.path, x.limit)), shown(x.cracks, api.OK))
	}
	for _, limit := range beyond(0, 255) {
		expect(t, limit, shown(groove.CracksIn(line, straight, limit)), failed(api.ErrRange))
	}
}

// P2.6, example 7 and the edge cases
func TestBridged(t *testing.T) {
	l := []int{0, 9, 9, 9, 8}
	for _, x := range []struct {
		positions []int
		gaps      []api.Range
		want      []int
	}{
		{l, []api.Range{{Lo: 1, Hi: 3}}, []int{0, 2, 4, 6, 8}},
		{l, []api.Range{{Lo: 0, Hi: 1}}, []int{9, 9, 9, 9, 8}},
		{l, []api.Range{{Lo: 0, Hi: 3}}, []int{8, 8, 8, 8, 8}},
		{l, []api.Range{{Lo: 1, Hi: 4}}, []int{0, 0, 0, 0, 0}},
		{l, []api.Range{{Lo: 4, Hi: 4}}, []int{0, 9, 9, 9, 9}},
		{l, []api.Range{{Lo: 0, Hi: 0}, {Lo: 2, Hi: 2}, {Lo: 4, Hi: 4}}, []int{9, 9, 9, 9, 9}},
		{l, []api.Range{{Lo: 0, Hi: 1}, {Lo: 3, Hi: 4}}, []int{9, 9, 9, 9, 9}},
		{l, nil, l},
		{nil, nil, nil},
		{[]int{7}, nil, []int{7}},
		{[]int{7, 3}, []api.Range{{Lo: 0, Hi: 0}}, []int{3, 3}},
		{[]int{7, 3}, []api.Range{{Lo: 1, Hi: 1}}, []int{7, 7}},
		{[]int{0, 5, 5, 1}, []api.Range{{Lo: 1, Hi: 2}}, []int{0, 0, 0, 1}},
		{[]int{0, 5, 5, -1}, []api.Range{{Lo: 1, Hi: 2}}, []int{0, -1, -1, -1}},
		{[]int{-1, 5, 5, -5}, []api.Range{{Lo: 1, Hi: 2}}, []int{-1, -3, -4, -5}},
		{[]int{3, 5, 5, 5, 0}, []api.Range{{Lo: 1, Hi: 3}}, []int{3, 2, 1, 0, 0}},
		{[]int{-1000000, 0, 1000000, 7, 999999}, []api.Range{{Lo: 1, Hi: 1}, {Lo: 3, Hi: 3}}, []int{-1000000, 0, 1000000, 999999, 999999}},
	} {
		expect(t, x, shown(groove.Bridged(x.positions, x.gaps)), shown(x.want, api.OK))
	}
}

// P2.6
func TestErrorsOfGaps(t *testing.T) {
	l := []int{1, 2, 3, 4, 5}
	for _, n := range beyond(0, 4) {
		for _, gaps := range [][]api.Range{{{Lo: n, Hi: 3}}, {{Lo: 3, Hi: n}}, {{Lo: n, Hi: n}}, {{Lo: 0, Hi: 0}, {Lo: 2, Hi: n}}, {{Lo: 0, Hi: 0}, {Lo: n, Hi: 3}}} {
			expect(t, gaps, shown(groove.Bridged(l, gaps)), failed(api.ErrMissing))
		}
	}
	for _, x := range []struct {
		gaps []api.Range
		e    api.Errno
	}{
		{[]api.Range{{Lo: 2, Hi: 1}}, api.ErrOrder}, {[]api.Range{{Lo: 4, Hi: 0}}, api.ErrOrder}, {[]api.Range{{Lo: 0, Hi: 0}, {Lo: 3, Hi: 2}}, api.ErrOrder},
		{[]api.Range{{Lo: 0, Hi: 1}, {Lo: 2, Hi: 3}}, api.ErrOrder}, {[]api.Range{{Lo: 0, Hi: 1}, {Lo: 2, Hi: 4}}, api.ErrOrder},
		{[]api.Range{{Lo: 0, Hi: 1}, {Lo: 1, Hi: 3}}, api.ErrOrder}, {[]api.Range{{Lo: 2, Hi: 3}, {Lo: 0, Hi: 0}}, api.ErrOrder},
		{[]api.Range{{Lo: 1, Hi: 1}, {Lo: 1, Hi: 1}}, api.ErrOrder}, {[]api.Range{{Lo: 0, Hi: 4}, {Lo: 0, Hi: 4}}, api.ErrOrder},
		{[]api.Range{{Lo: 1, Hi: 0}, {Lo: 9, Hi: 9}}, api.ErrOrder}, {[]api.Range{{Lo: 9, Hi: 9}, {Lo: 1, Hi: 0}}, api.ErrMissing},
		{[]api.Range{{Lo: 0, Hi: 4}, {Lo: 9, Hi: 9}}, api.ErrMissing}, {[]api.Range{{Lo: 0, Hi: 4}}, api.ErrNone},
	} {
		expect(t, x, shown(groove.Bridged(l, x.gaps)), failed(x.e))
	}
	expect(t, "all of one", shown(groove.Bridged([]int{5}, []api.Range{{}})), failed(api.ErrNone))
	expect(t, "all of 200", shown(groove.Bridged(make([]int, 200), []api.Range{{Lo: 0, Hi: 199}})), failed(api.ErrNone))
	for _, gap := range []api.Range{{}, {Lo: 0, Hi: -1}, {Lo: -1, Hi: -1}} {
		expect(t, gap, shown(groove.Bridged(nil, []api.Range{gap})), failed(api.ErrMissing))
	}
}

// someGaps returns gaps of count positions that do not contain all of them.
func someGaps(l []int, count int) []api.Range {
	var gaps []api.Range
	at := l[0]
	for _, n := range l[1:] {
		if at+n >= count {
			break
		}
		gaps = append(gaps, api.Range{Lo: at, Hi: at + n})
		at += n + 2 + n%3
	}
	if len(gaps) == 1 && gaps[0] == (api.Range{Lo: 0, Hi: count - 1}) {
		return nil
	}
	return gaps
}

// between is the document's definition of the position at the index n of a gap; the fraction has an exact floor.
func between(a, b, i, k, n int) int {
	part := (b - a) * (n - i)
	q := 0
	for q*(k-i) > part {
		q--
	}
	for (q+1)*(k-i) <= part {
		q++
	}
	return a + q
}

// P2.6 and P2.12
func TestOutsideAndInsideOfGaps(t *testing.T) {
	d := dice(16)
	for i := range 300 {
		most := []int{3, 100, 2000}[i%3]
		positions := numbers(d, 2+d.IntN(40), -most, most)
		gaps := someGaps(numbers(d, 6, 0, 5), len(positions))
		want := slices.Clone(positions)
		for _, gap := range gaps {
			before, after := gap.Lo-1, gap.Hi+1
			for n := gap.Lo; n <= gap.Hi; n++ {
				switch {
				case before < 0:
					want[n] = positions[after]
				case after == len(positions):
					want[n] = positions[before]
				default:
					a, b := positions[before], positions[after]
					want[n] = between(a, b, before, after, n)
					if want[n] < min(a, b) || want[n] > max(a, b) {
						t.Error(positions, gaps, n)
					}
				}
			}
		}
		expect(t, []any{positions, gaps}, shown(groove.Bridged(positions, gaps)), shown(want, api.OK))
	}
}

// P2.12
func TestStraightLinesAreRestored(t *testing.T) {
	for step := -3; step <= 3; step++ {
		line := make([]int, 60)
		for i := range line {
			line[i] = 50 + step*i
		}
		gaps := []api.Range{{Lo: 1, Hi: 1}, {Lo: 3, Hi: 9}, {Lo: 20, Hi: 57}}
		damaged := slices.Clone(line)
		for _, gap := range gaps {
			for n := gap.Lo; n <= gap.Hi; n++ {
				damaged[n] = 1000000 - n
			}
		}
		expect(t, step, shown(groove.Bridged(damaged, gaps)), shown(line, api.OK))
	}
}

// P2.6, example 9
func TestBreaksBetween(t *testing.T) {
	turns := [][]int{{1, 2, 3}, {3, 4, 5}, {9, 9, 9}}
	many := make([][]int, 20)
	for i := range many {
		many[i] = []int{i % 2}
	}
	for _, x := range []struct {
		turns [][]int
		limit int
		want  []int
	}{
		{turns, 2, []int{2}}, {turns, 0, []int{2}}, {turns, 3, []int{2}}, {turns, 4, nil}, {nil, 0, nil}, {turns[:1], 0, nil},
		{[][]int{{5}, {3}, {4, 9}, {9}}, 0, []int{1, 2}}, {[][]int{{5}, {3}, {4, 9}, {9}}, 1, []int{1}}, {[][]int{{9, 0}, {0, 9}, {0, 0}, {0}}, 8, []int{2}},
		{[][]int{{-1000000}, {1000000}, {-1000000}}, 1999999, []int{1, 2}}, {[][]int{{-1000000}, {1000000}}, 2000000, nil},
		{many, 0, []int{1, 2, 3, 4, 5, 6, 7, 8, 9, 10, 11, 12, 13, 14, 15, 16, 17, 18, 19}}, {many, 1, nil}, {[][]int{make([]int, 200), {1}}, 0, []int{1}},
	} {
		expect(t, x, shown(groove.BreaksBetween(x.turns, x.limit)), shown(x.want, api.OK))
	}
}

// P2.6
func TestBreaksBetweenErrors(t *testing.T) {
	for _, x := range []struct {
		turns [][]int
		limit int
		e     api.Errno
	}{
		{make([][]int, 21), 0, api.ErrLarge}, {slices.Repeat([][]int{{1000001}}, 21), -1, api.ErrLarge}, {[][]int{nil}, 0, api.ErrShape}, {[][]int{{1}, {}}, -1, api.ErrShape},
		{[][]int{{}, {1000001}}, 0, api.ErrShape}, {[][]int{{1000001}, {}}, 0, api.ErrRange}, {[][]int{{}, make([]int, 201)}, 0, api.ErrShape},
		{[][]int{{1}, make([]int, 201), {}}, 0, api.ErrLarge},
	} {
		expect(t, x, shown(groove.BreaksBetween(x.turns, x.limit)), failed(x.e))
	}
	for _, limit := range beyond(0, 2000000) {
		for _, turns := range [][][]int{nil, {{1}}, {{1}, {2}}} {
			expect(t, limit, shown(groove.BreaksBetween(turns, limit)), failed(api.ErrRange))
		}
	}
}
