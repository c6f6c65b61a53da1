package speed

import (
	"iter"
	"slices"

	"lacquer/api"
)

const minMarks = 2

// Accepts accepts a map that is a possible course, or returns the index of the piece or the mark at which it is not (P3.6).
func Accepts(e api.SpeedEvidence, m api.SpeedMap) (int, api.Errno) {
	evidence, err := checked(e)
	if err := firstError(err, checkMap(m)); err != api.OK {
		return 0, err
	}
	for i, piece := range piecesOf(m) {
		if !evidence.permitsRate(piece) {
			return i, api.ErrBreak
		}
	}
	for i, mark := range evidence.Marks {
		time, err := TimeAt(m, mark.Position)
		switch {
		case err != api.OK:
			return i, api.ErrGap
		case !encloses(mark.Time, time):
			return i, api.ErrClash
		}
	}
	return 0, api.OK
}

// AnyMap returns a map through all marks (P3.6): the earliest one, which has a node at each of them.
func AnyMap(e api.SpeedEvidence) (api.SpeedMap, api.Errno) {
	evidence, err := checked(e)
	err = firstError(
		err,
		when(len(e.Marks) < minMarks, api.ErrShape),
		when(!evidence.isPossible(), api.ErrClash))
	if err != api.OK {
		return api.SpeedMap{}, err
	}
	var nodes []api.SpeedNode
	for _, mark := range evidence.Marks {
		nodes = append(nodes, api.SpeedNode{Position: mark.Position, Time: evidence.timesAt(mark.Position).Lo})
	}
	return api.SpeedMap{Nodes: nodes}, api.OK
}

// FewestMap returns a map through all marks with the minimum number of nodes (P3.6).
func FewestMap(e api.SpeedEvidence) (api.SpeedMap, api.Errno) {
	evidence, err := checked(e)
	isWide := func(x api.SpeedMark) bool { return x.Time.Hi-x.Time.Lo+1 > api.MaxSpeedWidth }
	err = firstError(
		err,
		when(len(e.Marks) < minMarks, api.ErrShape),
		when(slices.ContainsFunc(evidence.Marks, isWide), api.ErrLarge),
		when(!evidence.isPossible(), api.ErrClash))
	if err != api.OK {
		return api.SpeedMap{}, err
	}
	return api.SpeedMap{Nodes: evidence.fewestNodes()}, api.OK
}

// fewestNodes searches in breadth for the last mark, so that the first way to it that is found has the fewest nodes. There is one if a course is possible.
func (e checkedEvidence) fewestNodes() []api.SpeedNode {
	first, last := e.Marks[0], e.Marks[len(e.Marks)-1]
	ways := slices.Collect(nodesAt(first))
	before := map[api.SpeedNode]api.SpeedNode{}
	var end api.SpeedNode
search:
	for len(ways) > 0 {
		from := ways[0]
		ways = ways[1:]
		for to := range e.straightFrom(from) {
			if _, reached := before[to]; reached {
				continue
			}
			before[to] = from
			if to.Position == last.Position {
				end = to
				break search
			}
			ways = append(ways, to)
		}
	}
	nodes := []api.SpeedNode{end}
	for node := end; node.Position > first.Position; {
		node = before[node]
		nodes = append(nodes, node)
	}
	slices.Reverse(nodes)
	return nodes
}

// straightFrom yields the nodes at later marks to which a single piece may lead.
func (e checkedEvidence) straightFrom(from api.SpeedNode) iter.Seq[api.SpeedNode] {
	return func(yield func(api.SpeedNode) bool) {
		for _, mark := range e.Marks {
			if mark.Position <= from.Position {
				continue
			}
			for to := range nodesAt(mark) {
				if e.permits(line{from: from, to: to}) && !yield(to) {
					return
				}
			}
		}
	}
}

// nodesAt yields the nodes that lie at the position of a mark and in its range.
func nodesAt(mark api.SpeedMark) iter.Seq[api.SpeedNode] {
	return func(yield func(api.SpeedNode) bool) {
		for time := mark.Time.Lo; time <= mark.Time.Hi; time++ {
			if !yield(api.SpeedNode{Position: mark.Position, Time: time}) {
				return
			}
		}
	}
}

// permits tells whether a line has a rate and times that the evidence permits.
func (e checkedEvidence) permits(l line) bool {
	isMissed := func(x api.SpeedMark) bool {
		return l.from.Position < x.Position && x.Position < l.to.Position && !encloses(x.Time, l.timeAt(x.Position))
	}
	return e.permitsRate(l) && !slices.ContainsFunc(e.Marks, isMissed)
}

func (e checkedEvidence) permitsRate(l line) bool {
	limits := e.limits(l.from.Position, l.to.Position)
	return limits[0] <= l.duration() && l.duration() <= limits[1]
}
