package groove

import "lacquer/api"

// VelocitiesOf returns the velocities of positions (P2.5).
func VelocitiesOf(positions []int) ([]int, api.Errno) {
	if e := checkTurn(positions); e != api.OK {
		return nil, e
	}
	velocities := make([]int, len(positions)-1)
	for i := range velocities {
		velocities[i] = positions[i+1] - positions[i]
	}
	return velocities, api.OK
}

// PositionsOf returns the positions with these velocities (P2.5).
func PositionsOf(start int, velocities []int) ([]int, api.Errno) {
	switch {
	case !areAtMost(api.MaxGroovePosition, start):
		return nil, api.ErrRange
	case len(velocities) >= api.MaxGrooveList:
		return nil, api.ErrLarge
	}
	positions := []int{start}
	for i, velocity := range velocities {
		if !areAtMost(maxDifference, velocity) {
			return nil, api.ErrRange
		}
		next := positions[i] + velocity
		if !areAtMost(api.MaxGroovePosition, next) {
			return nil, api.ErrBreak
		}
		positions = append(positions, next)
	}
	return positions, api.OK
}

// JumpsIn returns the indices of all jumps (P2.5).
func JumpsIn(positions []int, limit int) ([]int, api.Errno) {
	if e := checkPositions(positions); e != api.OK {
		return nil, e
	}
	if e := checkLimit(limit); e != api.OK {
		return nil, e
	}
	var jumps []int
	for i := 1; i < len(positions); i++ {
		if !areAtMost(limit, positions[i]-positions[i-1]) {
			jumps = append(jumps, i)
		}
	}
	return jumps, api.OK
}
