package spectrum_test

import (
	"math/big"
	"testing"

	"lacquer/api"
	"lacquer/spectrum"
)

const maxPower = 1000000000000

func powerParts(plain, root int) api.SpectrumPower {
	return api.SpectrumPower{Plain: plain, Root: root}
}

// powerOf returns the power of a bin: twice the sum of the squares of its real and its imaginary part. The root of 2 is twice half of it.
func powerOf(b api.SpectrumBin) api.SpectrumPower {
	re, im := b.Plain.Re, b.Plain.Im
	rootRe, rootIm := b.Root.Re, b.Root.Im
	// The square of half the root of 2 is 1/2.
	return powerParts(2*re*re+rootRe*rootRe+2*im*im+rootIm*rootIm, 2*re*rootRe+2*im*rootIm)
}

// number returns the real number of a power.
func number(p api.SpectrumPower) root {
	return root{big.NewRat(int64(p.Plain), 1), big.NewRat(2*int64(p.Root), 1)}
}

func compared(a, b api.SpectrumPower) int {
	return number(powerParts(a.Plain-b.Plain, a.Root-b.Root)).sign()
}

// P6.2, example 3
func TestPowerOf(t *testing.T) {
	for _, v := range []struct {
		b api.SpectrumBin
		p api.SpectrumPower
	}{
		{bin(0, 0, 1, -1), powerParts(2, 0)},
		{bin(1, 0, 1, 0), powerParts(3, 2)},
		{bin(0, 0, 0, 0), powerParts(0, 0)},
		{bin(3, 0, 0, 0), powerParts(18, 0)},
		{bin(0, -3, 0, 0), powerParts(18, 0)},
		{bin(0, 0, 3, 0), powerParts(9, 0)},
		{bin(0, 0, 0, -3), powerParts(9, 0)},
		{bin(1, 2, 3, -4), powerParts(2+8+9+16, 6-16)},
		{bin(262136, 262136, 262136, 262136), powerParts(6*262136*262136, 4*262136*262136)},
		{bin(-262136, 262136, 262136, -262136), powerParts(6*262136*262136, -4*262136*262136)},
	} {
		expect(t, v, shown(spectrum.PowerOf(v.b)), shown(v.p, api.OK))
	}
	for at := range 4 {
		for _, n := range beyond(-262136, 262136) {
			part := bad(4, at, n)
			expect(t, n, shown(spectrum.PowerOf(bin(part[0], part[1], part[2], part[3]))), shown(api.SpectrumPower{}, api.ErrRange))
		}
	}
}

// P6.2
func TestPowersOfSomeBins(t *testing.T) {
	d := dice(6)
	for range 2000 {
		part := someNumbers(d, 4, []int{3, 1000, 262136}[d.IntN(3)])
		b := bin(part[0], part[1], part[2], part[3])
		expect(t, b, shown(spectrum.PowerOf(b)), shown(powerOf(b), api.OK))
	}
}

// P6.10
func TestEnergy(t *testing.T) {
	d := dice(7)
	for range 500 {
		x := [8]int(someNumbers(d, 8, []int{9, maxSample}[d.IntN(2)]))
		s, e := spectrum.EightOf(x)
		expect(t, x, shown(e), shown(api.OK))
		var sum api.SpectrumPower
		for _, b := range s {
			p, e := spectrum.PowerOf(b)
			expect(t, x, shown(e), shown(api.OK))
			sum = powerParts(sum.Plain+p.Plain, sum.Root+p.Root)
		}
		squares := 0
		for _, sample := range x {
			squares += sample * sample
		}
		expect(t, x, shown(sum), shown(powerParts(16*squares, 0)))
	}
}

// P6.2, example 4
func TestComparePowers(t *testing.T) {
	for _, v := range []struct {
		a, b api.SpectrumPower
		want int
	}{
		{powerParts(3, 0), powerParts(0, 2), 1},
		{powerParts(7, 0), powerParts(0, 5), -1},
		{powerParts(0, 0), powerParts(0, 0), 0},
		{powerParts(5, -7), powerParts(5, -7), 0},
		{powerParts(maxPower, -maxPower), powerParts(maxPower, -maxPower), 0},
		{powerParts(1, 0), powerParts(0, 0), 1},
		{powerParts(0, 1), powerParts(0, 0), 1},
		{powerParts(-1, 0), powerParts(0, 0), -1},
		{powerParts(0, -1), powerParts(0, 0), -1},
		{powerParts(2, 1), powerParts(1, 2), -1},
		{powerParts(3, 1), powerParts(1, 2), 1},
		{powerParts(maxPower, maxPower), powerParts(-maxPower, -maxPower), 1},
		{powerParts(maxPower, -maxPower), powerParts(-maxPower, maxPower), -1},
		{powerParts(maxPower, 0), powerParts(0, maxPower), -1},
		{powerParts(maxPower, 0), powerParts(-maxPower, maxPower), 1},
		// Squares of these numbers differ by 1, or by 2.
		{powerParts(665857, 0), powerParts(0, 470832), 1},
		{powerParts(0, 470832), powerParts(665857, 0), -1},
		{powerParts(1607521, 0), powerParts(0, 1136689), -1},
		{powerParts(941664, 0), powerParts(0, 665857), -1},
	} {
		expect(t, v, shown(spectrum.ComparePowers(v.a, v.b)), shown(v.want, api.OK))
		expect(t, v, shown(spectrum.ComparePowers(v.b, v.a)), shown(-v.want, api.OK))
	}
	for at := range 4 {
		for _, n := range beyond(-maxPower, maxPower) {
			part := bad(4, at, n)
			expect(t, n, shown(spectrum.ComparePowers(powerParts(part[0], part[1]), powerParts(part[2], part[3]))), shown(0, api.ErrRange))
		}
	}
}

// P6.2: the closest whole multiples of 1 and of the root of 2
func TestComparePowersThatAreClose(t *testing.T) {
	p, q, want := 1, 1, -1
	for p <= 2*maxPower {
		// Half of p and q on each side are still within the limits.
		half, rest := powerParts(p/2, -(q/2)), powerParts(-(p-p/2), q-q/2)
		expect(t, p, shown(spectrum.ComparePowers(half, rest)), shown(want, api.OK))
		expect(t, p, shown(spectrum.ComparePowers(rest, half)), shown(-want, api.OK))
		if p <= maxPower {
			expect(t, p, shown(spectrum.ComparePowers(powerParts(p, 0), powerParts(0, q))), shown(want, api.OK))
			expect(t, p, shown(spectrum.ComparePowers(powerParts(0, -q), powerParts(-p, 0))), shown(want, api.OK))
		}
		p, q, want = p+2*q, p+q, -want
	}
}

// P6.2
func TestCompareSomePowers(t *testing.T) {
	d := dice(8)
	for range 3000 {
		part := someNumbers(d, 4, []int{3, 50, maxPower}[d.IntN(3)])
		a, b := powerParts(part[0], part[1]), powerParts(part[2], part[3])
		expect(t, part, shown(spectrum.ComparePowers(a, b)), shown(compared(a, b), api.OK))
	}
}

// strongest returns the cell with the maximum power by the document's definition.
func strongest(x []int, r api.SpectrumRegion) ([2]int, api.Errno) {
	var best [2]int
	var most api.SpectrumPower
	found := false
	for f := r.Frames.Lo; f <= r.Frames.Hi && f < frameCount(len(x)); f++ {
		s := eight(frameAt(x, f))
		for k := r.Bins.Lo; k <= r.Bins.Hi; k++ {
			if p := powerOf(s[k]); !found || compared(p, most) > 0 {
				best, most, found = [2]int{f, k}, p, true
			}
		}
	}
	if !found {
		return [2]int{}, api.ErrNone
	}
	return best, api.OK
}

// P6.2
func TestStrongestIn(t *testing.T) {
	tone := []int{0, 0, 0, 0, 9, -9, 9, -9}
	for _, v := range []struct {
		x    []int
		r    api.SpectrumRegion
		want [2]int
		e    api.Errno
	}{
		{tone, region(0, 2, 1, 4), [2]int{1, 4}, api.OK},
		{tone, region(0, 100, 0, 4), [2]int{1, 4}, api.OK},
		{tone, region(2, 2, 0, 4), [2]int{2, 4}, api.OK},
		{tone, region(2, 100, 4, 4), [2]int{2, 4}, api.OK},
		{tone, region(1, 2, 0, 3), [2]int{1, 3}, api.OK},
		{tone, region(3, 3, 0, 4), [2]int{}, api.ErrNone},
		{tone, region(4, 100, 0, 4), [2]int{}, api.ErrNone},
		// Of several the first one: all bins of a single impulse have the same power.
		{[]int{0, 5}, region(0, 1, 0, 4), [2]int{0, 0}, api.OK},
		{[]int{0, 5}, region(0, 1, 2, 3), [2]int{0, 2}, api.OK},
		{[]int{0, 5}, region(1, 1, 1, 4), [2]int{1, 1}, api.OK},
		{make([]int, 400), region(99, 100, 3, 4), [2]int{99, 3}, api.OK},
		{make([]int, 400), region(100, 100, 4, 4), [2]int{100, 4}, api.OK},
		{make([]int, 396), region(100, 100, 0, 4), [2]int{}, api.ErrNone},
		{[]int{7}, region(1, 1, 0, 0), [2]int{1, 0}, api.OK},
		{[]int{7}, region(2, 2, 0, 0), [2]int{}, api.ErrNone},
		{nil, region(0, 0, 0, 4), [2]int{}, api.ErrNone},
		{nil, region(0, 100, 0, 4), [2]int{}, api.ErrNone},
	} {
		expect(t, v, shown(spectrum.StrongestIn(v.x, v.r)), shown(v.want, v.e))
		expect(t, v, shown(strongest(v.x, v.r)), shown(v.want, v.e))
	}
	for _, bad := range regionsWithErrors() {
		for _, x := range [][]int{tone, nil} {
			expect(t, bad, shown(spectrum.StrongestIn(x, bad.region)), shown([2]int{}, bad.e))
		}
	}
	for _, bad := range signalsWithErrors() {
		for _, r := range []api.SpectrumRegion{region(0, 2, 0, 4), region(-1, 5, 7, 0), region(3, 2, 0, 4)} {
			expect(t, len(bad.x), shown(spectrum.StrongestIn(bad.x, r)), shown([2]int{}, bad.e))
		}
	}
}

// P6.2
func TestStrongestOfSomeSignals(t *testing.T) {
	d := dice(9)
	for range 300 {
		count := between(d, 0, 30)
		x := someNumbers(d, count, []int{1, 9, maxSample}[d.IntN(3)])
		r := api.SpectrumRegion{Frames: someRange(d, 9), Bins: someRange(d, 4)}
		want, e := strongest(x, r)
		expect(t, x, shown(spectrum.StrongestIn(x, r)), shown(want, e))
	}
}
