package listen_test

import (
	"math"
	"math/rand/v2"
	"slices"
	"testing"

	"lacquer/api"
	"lacquer/listen"
)

// asked returns the preferences of the example.
func asked() [][]int {
	return [][]int{{0, 3, 2}, {2, 0, 4}, {3, 1, 0}}
}

// square returns the preferences of count items among which nobody has any.
func square(count int) [][]int {
	p := make([][]int, count)
	for i := range p {
		p[i] = make([]int, count)
	}
	return p
}

func with(count, i, j, n int) [][]int {
	p := square(count)
	p[i][j] = n
	return p
}

// badPreferences is preferences with their error.
type badPreferences struct {
	p [][]int
	e api.Errno
}

func preferencesWithErrors() []badPreferences {
	l := []badPreferences{
		{square(7), api.ErrLarge}, {make([][]int, 7), api.ErrLarge}, {with(7, 0, 0, -1), api.ErrLarge}, {make([][]int, 100000), api.ErrLarge},
		{[][]int{{}}, api.ErrShape}, {[][]int{nil}, api.ErrShape}, {[][]int{{0, 0}}, api.ErrShape}, {[][]int{{0, 0}, {0}}, api.ErrShape}, {[][]int{{0}, {0, 0}}, api.ErrShape},
		{[][]int{{0, 0}, {0, 0, 0}}, api.ErrShape}, {[][]int{{0, 0}, nil}, api.ErrShape}, {make([][]int, 6), api.ErrShape}, {append(square(5), make([]int, 6)), api.ErrShape},
		// All slices are checked before all numbers.
		{[][]int{{0, -1}, {0}}, api.ErrShape}, {[][]int{{1, 0}, {0, 0, 0}}, api.ErrShape}, {[][]int{{0, 0}, {-1, 0}, {0, 0, 0}}, api.ErrShape},
		{with(1, 0, 0, 1), api.ErrForm}, {with(6, 0, 0, 1), api.ErrForm}, {with(6, 5, 5, 1), api.ErrForm}, {with(2, 1, 1, 1000), api.ErrForm},
		// Of several errors the first one, number by number.
		{[][]int{{1, -1}, {0, 0}}, api.ErrForm}, {[][]int{{0, -1}, {0, 1}}, api.ErrRange}, {[][]int{{1001, 0}, {0, 0}}, api.ErrRange}, {[][]int{{0, 1000}, {1001, 1}}, api.ErrRange}, {[][]int{{0, 0, 0}, {0, 5, 0}, {1001, 0, 0}}, api.ErrForm},
	}
	for _, n := range beyond(0, 1000) {
		l = append(l, badPreferences{with(1, 0, 0, n), api.ErrRange}, badPreferences{with(2, 0, 1, n), api.ErrRange}, badPreferences{with(2, 1, 1, n), api.ErrRange}, badPreferences{with(6, 5, 0, n), api.ErrRange}, badPreferences{with(6, 5, 4, n), api.ErrRange})
	}
	return l
}

// P9.5, example 6
func TestDisagreements(t *testing.T) {
	for _, v := range []struct {
		p     [][]int
		order []int
		want  int
	}{
		{asked(), []int{0, 1, 2}, 6}, {asked(), []int{1, 2, 0}, 6}, {asked(), []int{2, 0, 1}, 8}, {asked(), []int{2, 1, 0}, 9}, {asked(), []int{0, 2, 1}, 9}, {asked(), []int{1, 0, 2}, 7},
		{nil, nil, 0}, {square(1), []int{0}, 0}, {square(6), []int{5, 4, 3, 2, 1, 0}, 0},
		{with(2, 0, 1, 1000), []int{1, 0}, 1000}, {with(2, 0, 1, 1000), []int{0, 1}, 0},
		// Equal preferences of two items.
		{[][]int{{0, 7}, {7, 0}}, []int{0, 1}, 7}, {[][]int{{0, 7}, {7, 0}}, []int{1, 0}, 7},
	} {
		expect(t, v, shown(listen.Disagreements(v.p, v.order)), shown(v.want, api.OK))
	}
	for _, v := range []struct {
		e api.Errno
		l [][]int
	}{
		{api.ErrShape, [][]int{nil, {}, {0}, {0, 1}, {0, 1, 2, 0}, {0, 1, 2, 3}, {-1, 5}, {0, 0}, make([]int, 100000)}},
		{api.ErrMissing, [][]int{{0, 1, 3}, {3, 0, 1}, {-1, 0, 1}, {0, 1, math.MinInt}, {0, math.MaxInt, 0}, {3, 3, 3}, {0, -1, 0}}},
		{api.ErrDouble, [][]int{{0, 0, 1}, {0, 1, 0}, {0, 1, 1}, {2, 2, 2}, {0, 0, 3}, {1, 1, -1}}},
	} {
		for _, order := range v.l {
			expect(t, order, shown(listen.Disagreements(asked(), order)), shown(0, v.e))
		}
	}
	expect(t, "no items", shown(listen.Disagreements(nil, []int{0})), shown(0, api.ErrShape))
	for _, v := range preferencesWithErrors() {
		for _, order := range [][]int{nil, {0, 1}, {0, 0}, {0, 1, 2, 3, 4, 5}} {
			expect(t, v, shown(listen.Disagreements(v.p, order)), shown(0, v.e))
		}
	}
}

// P9.5, example 6
func TestBestRanking(t *testing.T) {
	for _, v := range []struct {
		p     [][]int
		want  []int
		count int
		bound int
	}{
		{asked(), []int{0, 1, 2}, 6, 5},
		{nil, nil, 0, 0}, {[][]int{}, nil, 0, 0}, {square(1), []int{0}, 0, 0}, {square(6), []int{0, 1, 2, 3, 4, 5}, 0, 0},
		{[][]int{{0, 7}, {7, 0}}, []int{0, 1}, 7, 7}, {[][]int{{0, 7}, {8, 0}}, []int{1, 0}, 7, 7}, {[][]int{{0, 8}, {7, 0}}, []int{0, 1}, 7, 7},
		{[][]int{{0, 0, 0}, {0, 0, 0}, {1, 0, 0}}, []int{1, 2, 0}, 0, 0},
		{[][]int{{0, 1, 0}, {0, 0, 1}, {1, 0, 0}}, []int{0, 1, 2}, 1, 0},
		{[][]int{{0, 1, 0, 0}, {0, 0, 0, 0}, {0, 0, 0, 1}, {1, 0, 0, 0}}, []int{2, 3, 0, 1}, 0, 0},
	} {
		expect(t, v, shown(listen.BestRanking(v.p)), shown(v.want, v.count, api.OK))
		expect(t, v, shown(listen.RankingBound(v.p)), shown(v.bound, api.OK))
	}
	for _, v := range preferencesWithErrors() {
		expect(t, v, shown(listen.BestRanking(v.p)), shown([]int{}, 0, v.e))
		expect(t, v, shown(listen.RankingBound(v.p)), shown(0, v.e))
	}
}

// allOrders returns all orders of items that begin with some, lexicographically.
func allOrders(count int, first []int) [][]int {
	if len(first) == count {
		return [][]int{slices.Clone(first)}
	}
	var l [][]int
	for item := range count {
		if !slices.Contains(first, item) {
			l = append(l, allOrders(count, append(slices.Clone(first), item))...)
		}
	}
	return l
}

// againstOrder returns the disagreements of an order by the definition.
func againstOrder(p [][]int, order []int) int {
	sum := 0
	for i := range p {
		for j := range p {
			if slices.Index(order, i) < slices.Index(order, j) {
				sum += p[j][i]
			}
		}
	}
	return sum
}

func somePreferences(d *rand.Rand) [][]int {
	p := square(d.IntN(7))
	most := []int{1, 2, 20, 1000}[d.IntN(4)]
	for i := range p {
		for j := range i {
			p[i][j], p[j][i] = d.IntN(most+1), d.IntN(most+1)
		}
	}
	return p
}

// P9.5, P9.12
func TestSomeRankings(t *testing.T) {
	d := dice(6)
	for range 150 {
		p := somePreferences(d)
		var best []int
		least, bound := -1, 0
		for _, order := range allOrders(len(p), nil) {
			n := againstOrder(p, order)
			expect(t, p, shown(listen.Disagreements(p, order)), shown(n, api.OK))
			if least < 0 || n < least {
				best, least = order, n
			}
		}
		for i := range p {
			for j := range p {
				if i < j {
					bound += min(p[i][j], p[j][i])
				}
			}
		}
		expect(t, p, shown(listen.BestRanking(p)), shown(best, least, api.OK))
		expect(t, p, shown(listen.RankingBound(p)), shown(bound, api.OK))
		if bound > least {
			t.Error(p, bound, least)
		}
	}
}
