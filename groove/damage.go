package groove

import (
	"slices"

	"lacquer/api"
)

// CracksIn returns the cracks of a path (P2.6).
func CracksIn(t api.GrooveTask, path []int, limit int) ([]api.Range, api.Errno) {
	task, e := checkedWith(t, path)
	switch {
	case e != api.OK:
		return nil, e
	case !areFrom(0, api.MaxGrooveValue, limit):
		return nil, api.ErrRange
	}
	var cracks []api.Range
	for row, column := range path {
		switch last := len(cracks) - 1; {
		case task.Strip[row][column] <= limit:
		case last >= 0 && cracks[last].Hi == row-1:
			cracks[last].Hi = row
		default:
			cracks = append(cracks, api.Range{Lo: row, Hi: row})
		}
	}
	return cracks, api.OK
}

// Bridged returns positions with all gaps bridged (P2.6).
func Bridged(positions []int, gaps []api.Range) ([]int, api.Errno) {
	if e := checkPositions(positions); e != api.OK {
		return nil, e
	}
	if e := checkGaps(gaps, len(positions)); e != api.OK {
		return nil, e
	}
	bridged := slices.Clone(positions)
	for _, gap := range gaps {
		bridge(bridged, gap)
	}
	return bridged, api.OK
}

// BreaksBetween returns the indices of all turns that break with the one before (P2.6).
func BreaksBetween(turns [][]int, limit int) ([]int, api.Errno) {
	if len(turns) > api.MaxGrooveTurns {
		return nil, api.ErrLarge
	}
	for _, turn := range turns {
		if e := checkTurn(turn); e != api.OK {
			return nil, e
		}
	}
	if e := checkLimit(limit); e != api.OK {
		return nil, e
	}
	var breaks []int
	for i := 1; i < len(turns); i++ {
		before := turns[i-1]
		if !areAtMost(limit, turns[i][0]-before[len(before)-1]) {
			breaks = append(breaks, i)
		}
	}
	return breaks, api.OK
}

// checkGaps returns the error of the gaps of a number of positions.
func checkGaps(gaps []api.Range, count int) api.Errno {
	for i, gap := range gaps {
		switch {
		case !areFrom(0, count-1, gap.Lo, gap.Hi):
			return api.ErrMissing
		case gap.Lo > gap.Hi, i > 0 && gap.Lo <= gaps[i-1].Hi+1:
			return api.ErrOrder
		}
	}
	// Gaps do not touch, so only a single one contains all positions.
	if slices.Contains(gaps, api.Range{Lo: 0, Hi: count - 1}) {
		return api.ErrNone
	}
	return api.OK
}

func bridge(positions []int, gap api.Range) {
	before, after := gap.Lo-1, gap.Hi+1
	a, b := endsOf(positions, gap)
	for n := gap.Lo; n <= gap.Hi; n++ {
		positions[n] = a + roundedDown((b-a)*(n-before), after-before)
	}
}

// endsOf returns the positions before and after a gap. Where there is none, the other one takes its place.
func endsOf(positions []int, gap api.Range) (a, b int) {
	switch {
	case gap.Lo == 0:
		b = positions[gap.Hi+1]
		return b, b
	case gap.Hi == len(positions)-1:
		a = positions[gap.Lo-1]
		return a, a
	}
	return positions[gap.Lo-1], positions[gap.Hi+1]
}

// roundedDown returns a quotient, rounded down also below 0; the divisor is above 0.
func roundedDown(n, divisor int) int {
	q := n / divisor
	if n%divisor < 0 {
		q--
	}
	return q
}
