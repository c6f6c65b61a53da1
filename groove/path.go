package groove

import (
	"iter"
	"math"

	"lacquer/api"
)

// unreachable is greater than the cost of any path, which has one bend fewer than it has columns.
const unreachable = api.MaxGrooveSteps * (api.MaxGrooveValue + api.MaxGrooveBend)

// checkedTask is a task that has no error.
type checkedTask struct {
	api.GrooveTask
	columns int
}

// CheckStrip returns the error of a strip (P2.3).
func CheckStrip(s api.GrooveStrip) api.Errno {
	return checkGrid(s, api.MaxGrooveSteps, api.MaxGrooveColumns)
}

// CostOf returns the cost of a path (P2.3).
func CostOf(t api.GrooveTask, path []int) (int, api.Errno) {
	task, e := checkedWith(t, path)
	if e != api.OK {
		return 0, e
	}
	cost := 0
	for row, column := range path {
		cost += task.Strip[row][column]
		if row > 0 {
			cost += task.bend(path[row-1], column)
		}
	}
	return cost, api.OK
}

// BestPath returns the best path and its cost (P2.3).
func BestPath(t api.GrooveTask) ([]int, int, api.Errno) {
	task, e := checked(t)
	if e != api.OK {
		return nil, 0, e
	}
	path, cost := task.leastPath(func(int, int) bool { return true })
	return path, cost, api.OK
}

// TurnPath returns the best turn with a pitch, and its cost (P2.3).
func TurnPath(t api.GrooveTask, pitch int) ([]int, int, api.Errno) {
	task, e := checked(t)
	switch {
	case e != api.OK:
		return nil, 0, e
	case !areAtMost(api.MaxGrooveColumns, pitch):
		return nil, 0, api.ErrRange
	}
	path, cost := task.leastPath(func(first, last int) bool { return last == first+pitch })
	if len(path) == 0 {
		return nil, 0, api.ErrNone
	}
	return path, cost, api.OK
}

func checked(t api.GrooveTask) (checkedTask, api.Errno) {
	e := CheckStrip(t.Strip)
	switch {
	case e != api.OK:
		return checkedTask{}, e
	case !areFrom(0, api.MaxGrooveBend, t.Bend):
		return checkedTask{}, api.ErrRange
	}
	return checkedTask{GrooveTask: t, columns: len(t.Strip[0])}, api.OK
}

// checkedWith also checks a path for the task.
func checkedWith(t api.GrooveTask, path []int) (checkedTask, api.Errno) {
	task, e := checked(t)
	if e == api.OK {
		e = task.checkPath(path)
	}
	if e != api.OK {
		return checkedTask{}, e
	}
	return task, api.OK
}

func (t checkedTask) checkPath(path []int) api.Errno {
	if len(path) != len(t.Strip) {
		return api.ErrShape
	}
	for row, column := range path {
		switch {
		case !areFrom(0, t.columns-1, column):
			return api.ErrMissing
		case row > 0 && !areAtMost(1, column-path[row-1]):
			return api.ErrOrder
		}
	}
	return api.OK
}

// bend returns the cost of going from a column to a neighbouring one, or of staying there.
func (t checkedTask) bend(from, to int) int {
	if from == to {
		return 0
	}
	return t.Bend
}

// neighbours yields the columns that differ from one by at most 1, ascending.
func (t checkedTask) neighbours(column int) iter.Seq[int] {
	return func(yield func(int) bool) {
		for other := max(column-1, 0); other <= min(column+1, t.columns-1); other++ {
			if !yield(other) {
				return
			}
		}
	}
}

// cheapest returns the neighbour with the least sum of its cost and the bend, the first one of several, and this sum.
func (t checkedTask) cheapest(costs []int, column int) (neighbour, least int) {
	least = math.MaxInt
	for other := range t.neighbours(column) {
		if sum := costs[other] + t.bend(column, other); sum < least {
			neighbour, least = other, sum
		}
	}
	return neighbour, least
}

// leastPath returns the path of minimum cost whose last column may follow its first one, the lexicographically first one of several, and its cost; no path if there is none.
func (t checkedTask) leastPath(mayFollow func(first, last int) bool) ([]int, int) {
	var path []int
	least := unreachable
	for first := range t.columns {
		rests := t.restsTo(func(last int) bool { return mayFollow(first, last) })
		if cost := rests[0][first]; cost < least {
			path, least = t.pathAlong(rests, first), cost
		}
	}
	return path, least
}

// restsTo returns, for each row and column, the minimum cost of the rest of a path that goes on there and ends in a column that may be the last one; at least unreachable if there is no such rest.
func (t checkedTask) restsTo(mayBeLast func(column int) bool) [][]int {
	rests := make([][]int, len(t.Strip))
	end := len(rests) - 1
	for row := end; row >= 0; row-- {
		rests[row] = make([]int, t.columns)
		for column, value := range t.Strip[row] {
			after := 0
			switch {
			case row < end:
				_, after = t.cheapest(rests[row+1], column)
			case !mayBeLast(column):
				after = unreachable
			}
			rests[row][column] = value + after
		}
	}
	return rests
}

// pathAlong returns the lexicographically first path from a column on whose rests have the minimum cost.
func (t checkedTask) pathAlong(rests [][]int, first int) []int {
	path := []int{first}
	for _, costs := range rests[1:] {
		next, _ := t.cheapest(costs, path[len(path)-1])
		path = append(path, next)
	}
	return path
}
