// Package groove is chapter 2: grooves that are read from images. See shared/doc/02-groove.md.
package groove

import "lacquer/api"

// maxDifference is the greatest difference of two positions, in size.
const maxDifference = 2 * api.MaxGroovePosition

// areFrom tells whether all numbers are from lo to hi.
func areFrom(lo, hi int, l ...int) bool {
	for _, n := range l {
		if n < lo || n > hi {
			return false
		}
	}
	return true
}

// areAtMost tells whether no number is greater in size than a limit.
func areAtMost(limit int, l ...int) bool {
	return areFrom(-limit, limit, l...)
}

// checkGrid returns the error of a grid of values.
func checkGrid[G ~[][]int](g G, maxRows, maxColumns int) api.Errno {
	switch {
	case len(g) == 0 || len(g[0]) == 0:
		return api.ErrShape
	case len(g) > maxRows || len(g[0]) > maxColumns:
		return api.ErrLarge
	}
	return checkRows(g, len(g[0]), 0, api.MaxGrooveValue)
}

// checkRows returns the error of the rows of a grid whose numbers are from lo to hi.
func checkRows[G ~[][]int](g G, columns, lo, hi int) api.Errno {
	for _, row := range g {
		switch {
		case len(row) != columns:
			return api.ErrShape
		case !areFrom(lo, hi, row...):
			return api.ErrRange
		}
	}
	return api.OK
}

func checkPositions(positions []int) api.Errno {
	switch {
	case len(positions) > api.MaxGrooveList:
		return api.ErrLarge
	case !areAtMost(api.MaxGroovePosition, positions...):
		return api.ErrRange
	}
	return api.OK
}

// checkTurn returns the error of positions of which there is at least one.
func checkTurn(positions []int) api.Errno {
	e := checkPositions(positions)
	if e == api.OK && len(positions) == 0 {
		return api.ErrShape
	}
	return e
}

func checkLimit(limit int) api.Errno {
	if !areFrom(0, maxDifference, limit) {
		return api.ErrRange
	}
	return api.OK
}
