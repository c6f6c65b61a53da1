package listen

import (
	"cmp"
	"iter"
	"slices"

	"lacquer/api"
)

// Disagreements returns the disagreements of an order of items (P9.5).
func Disagreements(p [][]int, order []int) (int, api.Errno) {
	if e := checkPreferences(p); e != api.OK {
		return 0, e
	}
	if e := checkOrder(len(p), order); e != api.OK {
		return 0, e
	}
	return disagreements(p, order), api.OK
}

// BestRanking returns the order with the minimum number of disagreements, and this number (P9.5).
func BestRanking(p [][]int) ([]int, int, api.Errno) {
	if e := checkPreferences(p); e != api.OK {
		return nil, 0, e
	}
	// Of several minimum orders this is the first one.
	best := slices.MinFunc(slices.Collect(orders(len(p))), func(a, b []int) int {
		return cmp.Compare(disagreements(p, a), disagreements(p, b))
	})
	return best, disagreements(p, best), api.OK
}

// RankingBound returns a number that no order's disagreements are below (P9.5).
func RankingBound(p [][]int) (int, api.Errno) {
	if e := checkPreferences(p); e != api.OK {
		return 0, e
	}
	sum := 0
	for i := range p {
		for j := range i {
			sum += min(p[i][j], p[j][i])
		}
	}
	return sum, api.OK
}

func checkPreferences(p [][]int) api.Errno {
	if len(p) > api.MaxListenItems {
		return api.ErrLarge
	}
	e := checkEach(p, func(row []int) api.Errno { return when(len(row) != len(p), api.ErrShape) })
	if e != api.OK {
		return e
	}
	for i, row := range p {
		for j, count := range row {
			if e := firstError(from(0, api.MaxListenCount)(count), when(i == j && count != 0, api.ErrForm)); e != api.OK {
				return e
			}
		}
	}
	return api.OK
}

func checkOrder(items int, order []int) api.Errno {
	if len(order) != items {
		return api.ErrShape
	}
	for i, item := range order {
		e := firstError(
			when(item < 0 || item >= items, api.ErrMissing),
			when(slices.Contains(order[:i], item), api.ErrDouble))
		if e != api.OK {
			return e
		}
	}
	return api.OK
}

func disagreements(p [][]int, order []int) int {
	sum := 0
	for place, item := range order {
		for _, better := range order[:place] {
			sum += p[item][better]
		}
	}
	return sum
}

// orders yields all orders of items, lexicographically.
func orders(items int) iter.Seq[[]int] {
	return func(yield func([]int) bool) {
		order := make([]int, items)
		for i := range order {
			order[i] = i
		}
		for exists := true; exists; exists = advance(order) {
			if !yield(slices.Clone(order)) {
				return
			}
		}
	}
}

// advance makes an order the lexicographically next one, if there is one.
func advance(order []int) bool {
	i := len(order) - 2
	for i >= 0 && order[i] > order[i+1] {
		i--
	}
	if i < 0 {
		return false
	}
	// What follows descends: the last greater item is the least one of them.
	j := len(order) - 1
	for order[j] < order[i] {
		j--
	}
	order[i], order[j] = order[j], order[i]
	slices.Reverse(order[i+1:])
	return true
}
