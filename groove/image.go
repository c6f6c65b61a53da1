package groove

import (
	"iter"

	"lacquer/api"
)

// side is a straight part of the way around a ring: the step from pixel to pixel, and how many times the radius it is long.
type side struct {
	step  api.GroovePoint
	radii int
}

// sides begin to the right of the center, in the middle of a side: it is in two parts.
var sides = [5]side{
	{step: api.GroovePoint{X: 0, Y: 1}, radii: 1},
	{step: api.GroovePoint{X: -1, Y: 0}, radii: 2},
	{step: api.GroovePoint{X: 0, Y: -1}, radii: 2},
	{step: api.GroovePoint{X: 1, Y: 0}, radii: 2},
	{step: api.GroovePoint{X: 0, Y: 1}, radii: 1},
}

// CheckImage returns the error of an image (P2.1).
func CheckImage(m api.GrooveImage) api.Errno {
	return checkGrid(m.Rows, api.MaxGrooveSide, api.MaxGrooveSide)
}

// RingOf returns the pixels of a ring (P2.1).
func RingOf(m api.GrooveImage, center api.GroovePoint, radius int) ([]int, api.Errno) {
	e := CheckImage(m)
	switch {
	case e != api.OK:
		return nil, e
	case !areFrom(1, api.MaxGrooveSide, radius):
		return nil, api.ErrRange
	case !hasRing(m, center, radius):
		return nil, api.ErrBreak
	}
	return ringOf(m, center, radius), api.OK
}

// Unrolled returns the strip of a view (P2.1).
func Unrolled(m api.GrooveImage, v api.GrooveView) (api.GrooveStrip, api.Errno) {
	e := CheckImage(m)
	switch {
	case e != api.OK:
		return nil, e
	case !areFrom(1, api.MaxGrooveSide, v.Radii.Lo, v.Radii.Hi), !areFrom(1, api.MaxGrooveSteps, v.Steps):
		return nil, api.ErrRange
	case v.Radii.Lo > v.Radii.Hi:
		return nil, api.ErrOrder
	case v.Radii.Hi-v.Radii.Lo+1 > api.MaxGrooveColumns:
		return nil, api.ErrLarge
	case !hasRing(m, v.Center, v.Radii.Hi):
		return nil, api.ErrBreak
	}
	strip := make(api.GrooveStrip, v.Steps)
	for radius := v.Radii.Lo; radius <= v.Radii.Hi; radius++ {
		ring := ringOf(m, v.Center, radius)
		for k := range strip {
			strip[k] = append(strip[k], ring[len(ring)*k/v.Steps])
		}
	}
	return strip, api.OK
}

// hasRing tells whether a ring is in an image, and with it all smaller ones. It computes nothing from the center, which may be so far away that this would overflow.
func hasRing(m api.GrooveImage, center api.GroovePoint, radius int) bool {
	return areFrom(radius, len(m.Rows[0])-1-radius, center.X) && areFrom(radius, len(m.Rows)-1-radius, center.Y)
}

func ringOf(m api.GrooveImage, center api.GroovePoint, radius int) []int {
	var ring []int
	for p := range around(center, radius) {
		ring = append(ring, m.Rows[p.Y][p.X])
	}
	return ring
}

// around yields where the pixels of a ring are, in their order.
func around(center api.GroovePoint, radius int) iter.Seq[api.GroovePoint] {
	return func(yield func(api.GroovePoint) bool) {
		at := api.GroovePoint{X: center.X + radius, Y: center.Y}
		for _, s := range sides {
			for range s.radii * radius {
				if !yield(at) {
					return
				}
				at.X += s.step.X
				at.Y += s.step.Y
			}
		}
	}
}
