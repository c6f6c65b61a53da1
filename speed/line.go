package speed

import (
	"iter"

	"lacquer/api"
)

// line is a straight line between two nodes: a piece of a map, or its chord.
type line struct{ from, to api.SpeedNode }

func (l line) length() int {
	return l.to.Position - l.from.Position
}

func (l line) duration() int {
	return l.to.Time - l.from.Time
}

// timeAt returns the time at a position of the line, rounded down and up.
func (l line) timeAt(position int) api.Range {
	after := rounded(l.duration()*(position-l.from.Position), l.length())
	return moved(after, l.from.Time)
}

// positionAt returns the position at a time of the line in parts of a sample, rounded down and up.
func (l line) positionAt(time int) api.Range {
	product := l.length() * (time - l.from.Time)
	// The product may be too large to be multiplied by Grid: only what is left of it after the whole samples is.
	samples, rest := product/l.duration(), product%l.duration()
	return moved(rounded(api.Grid*rest, l.duration()), api.Grid*(l.from.Position+samples))
}

// deviation returns the size of a node's deviation from the line, times the line's length.
func (l line) deviation(node api.SpeedNode) int {
	n := (node.Time-l.from.Time)*l.length() - l.duration()*(node.Position-l.from.Position)
	return max(n, -n)
}

// piecesOf yields the pieces of a map with their indexes.
func piecesOf(m api.SpeedMap) iter.Seq2[int, line] {
	return func(yield func(int, line) bool) {
		for i := 1; i < len(m.Nodes); i++ {
			if !yield(i-1, line{from: m.Nodes[i-1], to: m.Nodes[i]}) {
				return
			}
		}
	}
}

// rounded returns a quotient, rounded down and up. The dividend is not below 0, the divisor above it.
func rounded(num, den int) api.Range {
	return api.Range{Lo: num / den, Hi: (num + den - 1) / den}
}

func moved(r api.Range, by int) api.Range {
	return api.Range{Lo: r.Lo + by, Hi: r.Hi + by}
}

// fractionOf returns a quotient, which is not below 0, in lowest terms.
func fractionOf(num, den int) (api.Frac, api.Errno) {
	divisor, rest := den, num
	for rest != 0 {
		divisor, rest = rest, divisor%rest
	}
	if num/divisor > api.MaxPart {
		return api.Frac{}, api.ErrLarge
	}
	return api.Frac{Num: num / divisor, Den: den / divisor}, api.OK
}
