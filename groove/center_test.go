package groove_test

import (
	"math/rand/v2"
	"slices"
	"testing"

	"lacquer/api"
	"lacquer/groove"
)

func circle(points []api.GroovePoint, radius, x, y api.Range) api.GrooveCircle {
	return api.GrooveCircle{Points: points, Radius: radius, X: x, Y: y}
}

func span(lo, hi int) api.Range {
	return api.Range{Lo: lo, Hi: hi}
}

// disc is the circle of the example 2.
func disc(radius api.Range) api.GrooveCircle {
	return circle([]api.GroovePoint{point(5, 0), point(0, 5), point(-5, 0)}, radius, span(-3, 3), span(-3, 3))
}

// misfitOf returns the index of the first point that contradicts a center, or -1.
func misfitOf(c api.GrooveCircle, x, y int) int {
	return slices.IndexFunc(c.Points, func(p api.GroovePoint) bool {
		d := (p.X-x)*(p.X-x) + (p.Y-y)*(p.Y-y)
		return d < c.Radius.Lo*c.Radius.Lo || d > c.Radius.Hi*c.Radius.Hi
	})
}

// centersOf is the document's definition of all centers.
func centersOf(c api.GrooveCircle) []api.GroovePoint {
	var l []api.GroovePoint
	for x := c.X.Lo; x <= c.X.Hi; x++ {
		for y := c.Y.Lo; y <= c.Y.Hi; y++ {
			if misfitOf(c, x, y) < 0 {
				l = append(l, point(x, y))
			}
		}
	}
	return l
}

func someCircle(d *rand.Rand) api.GrooveCircle {
	var points []api.GroovePoint
	for range 1 + d.IntN(5) {
		points = append(points, point(d.IntN(41)-20, d.IntN(41)-20))
	}
	x, y, radius := d.IntN(21)-15, d.IntN(21)-15, d.IntN(25)
	return circle(points, span(radius, radius+d.IntN(20)), span(x, x+d.IntN(30)), span(y, y+d.IntN(30)))
}

// P2.2, example 2
func TestCentersOfTheExample(t *testing.T) {
	expect(t, "5 to 5", shown(groove.CentersOf(disc(span(5, 5)))), shown(api.GrooveCenters{}, api.OK))
	c := disc(span(4, 6))
	expect(t, "fits", shown(groove.CheckCenter(c, point(1, 0))), shown(0, api.OK))
	expect(t, "fits not", shown(groove.CheckCenter(c, point(1, 1))), shown(2, api.ErrProof))
	expect(t, "fits not", shown(groove.CheckCenter(c, point(-1, -1))), shown(0, api.ErrProof))
	expect(t, "fits not", shown(groove.CheckCenter(c, point(0, 2))), shown(1, api.ErrProof))
	expect(t, "none", shown(groove.CentersOf(disc(span(6, 6)))), shown(api.GrooveCenters{}, api.ErrNone))
}

// P2.2, the edge cases
func TestCirclesOfOnePoint(t *testing.T) {
	p := point(-1000, 1000)
	for _, points := range [][]api.GroovePoint{{p}, slices.Repeat([]api.GroovePoint{p}, 20)} {
		c := circle(points, span(0, 0), span(-1000, -971), span(971, 1000))
		expect(t, c, shown(groove.CentersOf(c)), shown(api.GrooveCenters{First: p, X: span(-1000, -1000), Y: span(1000, 1000)}, api.OK))
		expect(t, c, shown(groove.CheckCenter(c, p)), shown(0, api.OK))
		expect(t, c, shown(groove.CheckCenter(c, point(-999, 1000))), shown(0, api.ErrProof))
		c.Points[len(points)-1] = point(-1000, 999)
		if len(points) > 1 {
			expect(t, c, shown(groove.CheckCenter(c, p)), shown(len(points)-1, api.ErrProof))
			expect(t, c, shown(groove.CentersOf(c)), shown(api.GrooveCenters{}, api.ErrNone))
		}
	}
	wide := circle([]api.GroovePoint{point(1000, 1000)}, span(0, 1000), span(1000, 1000), span(0, 0))
	expect(t, wide, shown(groove.CentersOf(wide)), shown(api.GrooveCenters{First: point(1000, 0), X: span(1000, 1000)}, api.OK))
	wide.Radius.Hi = 999
	expect(t, wide, shown(groove.CentersOf(wide)), shown(api.GrooveCenters{}, api.ErrNone))
}

// P2.2 and P2.13
func TestCenters(t *testing.T) {
	d := dice(7)
	found := 0
	for range 300 {
		c := someCircle(d)
		all := centersOf(c)
		want := shown(api.GrooveCenters{}, api.ErrNone)
		if len(all) > 0 {
			found++
			centers := api.GrooveCenters{First: all[0], X: span(all[0].X, all[0].X), Y: span(all[0].Y, all[0].Y)}
			for _, p := range all {
				centers.X = span(min(centers.X.Lo, p.X), max(centers.X.Hi, p.X))
				centers.Y = span(min(centers.Y.Lo, p.Y), max(centers.Y.Hi, p.Y))
			}
			want = shown(centers, api.OK)
		}
		expect(t, c, shown(groove.CentersOf(c)), want)
		for x := c.X.Lo; x <= c.X.Hi; x++ {
			for y := c.Y.Lo; y <= c.Y.Hi; y++ {
				want := shown(0, api.OK)
				if i := misfitOf(c, x, y); i >= 0 {
					want = shown(i, api.ErrProof)
				}
				expect(t, c, shown(groove.CheckCenter(c, point(x, y))), want)
			}
		}
	}
	if found < 50 || found > 250 {
		t.Error("circles with centers:", found)
	}
}

// P2.13
func TestAcceptedCenters(t *testing.T) {
	d := dice(8)
	for range 200 {
		c := someCircle(d)
		centers, e := groove.CentersOf(c)
		for x := c.X.Lo; x <= c.X.Hi; x++ {
			for y := c.Y.Lo; y <= c.Y.Hi; y++ {
				if _, fits := groove.CheckCenter(c, point(x, y)); fits != api.OK {
					continue
				}
				if e != api.OK || x < centers.X.Lo || x > centers.X.Hi || y < centers.Y.Lo || y > centers.Y.Hi {
					t.Error(c, x, y, centers, e)
				}
				var squares []int
				for _, p := range c.Points {
					squares = append(squares, (p.X-x)*(p.X-x)+(p.Y-y)*(p.Y-y))
				}
				if slices.Max(squares)-slices.Min(squares) > c.Radius.Hi*c.Radius.Hi-c.Radius.Lo*c.Radius.Lo {
					t.Error(c, x, y, squares)
				}
			}
		}
	}
}

type badCircle struct {
	c api.GrooveCircle
	e api.Errno
}

// badNumbers returns circles of which one number is outside its range, whatever else is wrong.
func badNumbers() []badCircle {
	var l []badCircle
	add := func(change func(c *api.GrooveCircle, n int), lo, hi int) {
		for _, n := range beyond(lo, hi) {
			c := disc(span(4, 6))
			change(&c, n)
			l = append(l, badCircle{c, api.ErrRange})
		}
	}
	add(func(c *api.GrooveCircle, n int) { c.Points[0].X = n }, -1000, 1000)
	add(func(c *api.GrooveCircle, n int) { c.Points[2].Y = n }, -1000, 1000)
	add(func(c *api.GrooveCircle, n int) { c.Points[1].Y, c.X = n, span(3, -3) }, -1000, 1000)
	add(func(c *api.GrooveCircle, n int) { c.Radius.Lo = n }, 0, 1000)
	add(func(c *api.GrooveCircle, n int) { c.Radius.Hi = n }, 0, 1000)
	add(func(c *api.GrooveCircle, n int) { c.X.Lo = n }, -1000, 1000)
	add(func(c *api.GrooveCircle, n int) { c.X.Hi = n }, -1000, 1000)
	add(func(c *api.GrooveCircle, n int) { c.Y.Lo = n }, -1000, 1000)
	add(func(c *api.GrooveCircle, n int) { c.Y.Hi, c.Radius = n, span(6, 4) }, -1000, 1000)
	return l
}

func badCircles() []badCircle {
	points := []api.GroovePoint{point(0, 0)}
	far := []api.GroovePoint{point(0, 1001)}
	return append(badNumbers(),
		badCircle{circle(nil, span(-1, -1), span(1, 0), span(1, 0)), api.ErrShape},
		badCircle{circle([]api.GroovePoint{}, span(0, 1), span(0, 1), span(0, 1)), api.ErrShape},
		badCircle{circle(slices.Repeat(points, 21), span(0, 1), span(0, 1), span(0, 1)), api.ErrLarge},
		badCircle{circle(slices.Repeat(far, 21), span(2, 1), span(0, 99), span(0, 1)), api.ErrLarge},
		badCircle{circle(points, span(2, 1), span(0, 1), span(0, 1)), api.ErrOrder},
		badCircle{circle(points, span(0, 1), span(1, 0), span(0, 1)), api.ErrOrder},
		badCircle{circle(points, span(0, 1), span(0, 1), span(1, 0)), api.ErrOrder},
		badCircle{circle(points, span(1000, 0), span(0, 1), span(0, 99)), api.ErrOrder},
		badCircle{circle(points, span(0, 1), span(0, 99), span(1000, -1000)), api.ErrOrder},
		badCircle{circle(points, span(0, 1), span(0, 30), span(0, 1)), api.ErrLarge},
		badCircle{circle(points, span(0, 1), span(0, 1), span(-15, 15)), api.ErrLarge},
		badCircle{circle(points, span(0, 1), span(-1000, 1000), span(-1000, 1000)), api.ErrLarge})
}

// P2.2
func TestErrorsOfCircles(t *testing.T) {
	for _, bad := range badCircles() {
		expect(t, bad, shown(groove.CentersOf(bad.c)), shown(api.GrooveCenters{}, bad.e))
		for _, center := range []api.GroovePoint{point(0, 0), point(3, 3), point(1001, -1001)} {
			expect(t, bad, shown(groove.CheckCenter(bad.c, center)), shown(0, bad.e))
		}
	}
}

// P2.2
func TestLimitsOfCircles(t *testing.T) {
	points := slices.Repeat([]api.GroovePoint{point(1000, -1000)}, 20)
	c := circle(points, span(0, 1000), span(971, 1000), span(-1000, -971))
	expect(t, c, shown(groove.CentersOf(c)), shown(api.GrooveCenters{First: point(971, -1000), X: c.X, Y: c.Y}, api.OK))
	c.Radius.Lo = 1000
	expect(t, c, shown(groove.CentersOf(c)), shown(api.GrooveCenters{}, api.ErrNone))
}

// P2.2: a center outside of the area is no center, even if it fits.
func TestCentersOutsideOfTheArea(t *testing.T) {
	c := disc(span(0, 1000))
	c.Y = span(-2, 1)
	for _, n := range append(beyond(-3, 3), 5) {
		expect(t, n, shown(groove.CheckCenter(c, point(n, 0))), shown(0, api.ErrRange))
	}
	for _, n := range append(beyond(-2, 1), 2, 3) {
		expect(t, n, shown(groove.CheckCenter(c, point(0, n))), shown(0, api.ErrRange))
	}
	for _, center := range []api.GroovePoint{point(-3, -2), point(3, 1), point(-3, 1)} {
		expect(t, center, shown(groove.CheckCenter(c, center)), shown(0, api.OK))
	}
}
