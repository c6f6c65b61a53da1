package speed

import (
	"slices"

	"lacquer/api"
)

const minNodes = 2

// CheckMap returns the error of a map, and the index of the node that has it (P3.1).
func CheckMap(m api.SpeedMap) (int, api.Errno) {
	e := firstError(
		when(len(m.Nodes) < minNodes, api.ErrShape),
		when(len(m.Nodes) > api.MaxSpeedNodes, api.ErrLarge))
	if e != api.OK {
		return 0, e
	}
	before := api.SpeedNode{Position: -1, Time: -1}
	for i, node := range m.Nodes {
		e := firstError(
			checkPosition(node.Position),
			checkTime(node.Time),
			when(node.Position <= before.Position || node.Time <= before.Time, api.ErrOrder))
		if e != api.OK {
			return i, e
		}
		before = node
	}
	return 0, api.OK
}

// TimeAt returns the time at a position, rounded down and up (P3.1).
func TimeAt(m api.SpeedMap, position int) (api.Range, api.Errno) {
	piece, e := pieceWith(m, func(p line) bool {
		return p.from.Position <= position && position <= p.to.Position
	})
	if e != api.OK {
		return api.Range{}, e
	}
	return piece.timeAt(position), api.OK
}

// PositionAt returns the position at a time in parts of a sample, rounded down and up (P3.1).
func PositionAt(m api.SpeedMap, time int) (api.Range, api.Errno) {
	piece, e := pieceWith(m, func(p line) bool {
		return p.from.Time <= time && time <= p.to.Time
	})
	if e != api.OK {
		return api.Range{}, e
	}
	return piece.positionAt(time), api.OK
}

// RateAt returns the rate of a piece (P3.2).
func RateAt(m api.SpeedMap, piece int) (api.Frac, api.Errno) {
	if e := checkMap(m); e != api.OK {
		return api.Frac{}, e
	}
	for i, p := range piecesOf(m) {
		if i == piece {
			return fractionOf(p.duration(), p.length())
		}
	}
	return api.Frac{}, api.ErrMissing
}

// WowOf returns the maximum size of the deviations, and the first node that has it (P3.2).
func WowOf(m api.SpeedMap) (api.Frac, int, api.Errno) {
	if e := checkMap(m); e != api.OK {
		return api.Frac{}, 0, e
	}
	chord := line{from: m.Nodes[0], to: m.Nodes[len(m.Nodes)-1]}
	most, index := 0, 0
	for i, node := range m.Nodes {
		if d := chord.deviation(node); d > most {
			most, index = d, i
		}
	}
	wow, e := fractionOf(most, chord.length())
	if e != api.OK {
		return api.Frac{}, 0, e
	}
	return wow, index, api.OK
}

// Part returns the map with the nodes from an index to another one (P3.3).
func Part(m api.SpeedMap, first, last int) (api.SpeedMap, api.Errno) {
	isMissing := func(i int) bool { return i < 0 || i >= len(m.Nodes) }
	e := firstError(
		checkMap(m),
		when(isMissing(first) || isMissing(last), api.ErrMissing),
		when(last <= first, api.ErrShape))
	if e != api.OK {
		return api.SpeedMap{}, e
	}
	return api.SpeedMap{Nodes: slices.Clone(m.Nodes[first : last+1])}, api.OK
}

// Joined returns the map that goes on with another one (P3.3).
func Joined(a, b api.SpeedMap) (api.SpeedMap, api.Errno) {
	if e := firstError(checkMap(a), checkMap(b)); e != api.OK {
		return api.SpeedMap{}, e
	}
	nodes := slices.Concat(a.Nodes, b.Nodes[1:])
	e := firstError(
		when(a.Nodes[len(a.Nodes)-1] != b.Nodes[0], api.ErrGap),
		when(len(nodes) > api.MaxSpeedNodes, api.ErrLarge))
	if e != api.OK {
		return api.SpeedMap{}, e
	}
	return api.SpeedMap{Nodes: nodes}, api.OK
}

// checkMap returns the error of a map without its index.
func checkMap(m api.SpeedMap) api.Errno {
	_, e := CheckMap(m)
	return e
}

// pieceWith returns the first piece of a map that holds what is sought.
func pieceWith(m api.SpeedMap, holds func(line) bool) (line, api.Errno) {
	if e := checkMap(m); e != api.OK {
		return line{}, e
	}
	for _, p := range piecesOf(m) {
		if holds(p) {
			return p, api.OK
		}
	}
	return line{}, api.ErrRange
}
