package groove

import (
	"slices"

	"lacquer/api"
)

// CheckCenter accepts a center that fits, or returns the index of the first point that contradicts it (P2.2).
func CheckCenter(c api.GrooveCircle, center api.GroovePoint) (int, api.Errno) {
	if e := checkCircle(c); e != api.OK {
		return 0, e
	}
	if !areFrom(c.X.Lo, c.X.Hi, center.X) || !areFrom(c.Y.Lo, c.Y.Hi, center.Y) {
		return 0, api.ErrRange
	}
	if i, found := misfit(c, center); found {
		return i, api.ErrProof
	}
	return 0, api.OK
}

// CentersOf returns the first one of the centers, and what contains all of them (P2.2).
func CentersOf(c api.GrooveCircle) (api.GrooveCenters, api.Errno) {
	if e := checkCircle(c); e != api.OK {
		return api.GrooveCenters{}, e
	}
	var xs, ys []int
	for x := c.X.Lo; x <= c.X.Hi; x++ {
		for y := c.Y.Lo; y <= c.Y.Hi; y++ {
			if _, found := misfit(c, api.GroovePoint{X: x, Y: y}); !found {
				xs, ys = append(xs, x), append(ys, y)
			}
		}
	}
	if len(xs) == 0 {
		return api.GrooveCenters{}, api.ErrNone
	}
	return api.GrooveCenters{First: api.GroovePoint{X: xs[0], Y: ys[0]}, X: rangeOf(xs), Y: rangeOf(ys)}, api.OK
}

func checkCircle(c api.GrooveCircle) api.Errno {
	const limit = api.MaxGrooveRadius
	isFar := func(p api.GroovePoint) bool { return !areAtMost(limit, p.X, p.Y) }
	switch {
	case len(c.Points) == 0:
		return api.ErrShape
	case len(c.Points) > api.MaxGroovePoints:
		return api.ErrLarge
	case slices.ContainsFunc(c.Points, isFar),
		!areFrom(0, limit, c.Radius.Lo, c.Radius.Hi),
		!areAtMost(limit, c.X.Lo, c.X.Hi, c.Y.Lo, c.Y.Hi):
		return api.ErrRange
	case c.Radius.Lo > c.Radius.Hi, c.X.Lo > c.X.Hi, c.Y.Lo > c.Y.Hi:
		return api.ErrOrder
	case c.X.Hi-c.X.Lo+1 > api.MaxGrooveArea, c.Y.Hi-c.Y.Lo+1 > api.MaxGrooveArea:
		return api.ErrLarge
	}
	return api.OK
}

// misfit returns the index of the first point whose distance from a center is not in the range of the radius.
func misfit(c api.GrooveCircle, center api.GroovePoint) (int, bool) {
	i := slices.IndexFunc(c.Points, func(p api.GroovePoint) bool {
		x, y := p.X-center.X, p.Y-center.Y
		return !areFrom(c.Radius.Lo*c.Radius.Lo, c.Radius.Hi*c.Radius.Hi, x*x+y*y)
	})
	return i, i >= 0
}

func rangeOf(l []int) api.Range {
	return api.Range{Lo: slices.Min(l), Hi: slices.Max(l)}
}
