package spectrum_test

import (
	"testing"

	"lacquer/api"
	"lacquer/spectrum"
)

// gauss returns numbers: for each its real and its imaginary part.
func gauss(parts ...int) [4]api.Gauss {
	var s [4]api.Gauss
	for i, n := range parts {
		if i%2 == 0 {
			s[i/2].Re = n
		} else {
			s[i/2].Im = n
		}
	}
	return s
}

// bin returns a bin: the parts of Plain, and those of Root.
func bin(plainRe, plainIm, rootRe, rootIm int) api.SpectrumBin {
	return api.SpectrumBin{Plain: api.Gauss{Re: plainRe, Im: plainIm}, Root: api.Gauss{Re: rootRe, Im: rootIm}}
}

// four returns the transform of four samples by the document's definition.
func four(x [4]int) [4]api.Gauss {
	turns := [4]api.Gauss{{Re: 1}, {Im: -1}, {Re: -1}, {Im: 1}}
	var s [4]api.Gauss
	for k := range s {
		for n, sample := range x {
			s[k].Re += sample * turns[k*n%4].Re
			s[k].Im += sample * turns[k*n%4].Im
		}
	}
	return s
}

// eight returns the transform of eight samples by the document's definition.
func eight(x [8]int) [8]api.SpectrumBin {
	var s [8]api.SpectrumBin
	for k, number := range transformed(x) {
		s[k] = number.bin()
	}
	return s
}

// P6.1, example 1
func TestFourOf(t *testing.T) {
	for _, v := range []struct {
		x [4]int
		s [4]api.Gauss
	}{
		{[4]int{1, 2, 3, 4}, gauss(10, 0, -2, 2, -2, 0, -2, -2)},
		{[4]int{0, 1}, gauss(1, 0, 0, -1, -1, 0, 0, 1)},
		{[4]int{0, 0, 0, -5}, gauss(-5, 0, 0, -5, 5, 0, 0, 5)},
		{[4]int{}, gauss()},
		{[4]int{maxSample, maxSample, maxSample, maxSample}, gauss(131068)},
		{[4]int{-maxSample, maxSample, -maxSample, maxSample}, gauss(0, 0, 0, 0, -131068)},
	} {
		expect(t, v, shown(spectrum.FourOf(v.x)), shown(v.s, api.OK))
		expect(t, v, shown(spectrum.FromFour(v.s)), shown(v.x, api.OK))
	}
}

// P6.1, example 2
func TestEightOf(t *testing.T) {
	for _, v := range []struct {
		x [8]int
		s [8]api.SpectrumBin
	}{
		{[8]int{0, 1}, [8]api.SpectrumBin{bin(1, 0, 0, 0), bin(0, 0, 1, -1), bin(0, -1, 0, 0), bin(0, 0, -1, -1), bin(-1, 0, 0, 0), bin(0, 0, -1, 1), bin(0, 1, 0, 0), bin(0, 0, 1, 1)}},
		{[8]int{5}, [8]api.SpectrumBin{bin(5, 0, 0, 0), bin(5, 0, 0, 0), bin(5, 0, 0, 0), bin(5, 0, 0, 0), bin(5, 0, 0, 0), bin(5, 0, 0, 0), bin(5, 0, 0, 0), bin(5, 0, 0, 0)}},
		{[8]int{1, 2, 3, 4, 5, 6, 7, 8}, [8]api.SpectrumBin{bin(36, 0, 0, 0), bin(-4, 4, 0, 8), bin(-4, 4, 0, 0), bin(-4, -4, 0, 8), bin(-4, 0, 0, 0), bin(-4, 4, 0, -8), bin(-4, -4, 0, 0), bin(-4, -4, 0, -8)}},
		{[8]int{}, [8]api.SpectrumBin{}},
		{[8]int{maxSample, maxSample, maxSample, maxSample, maxSample, maxSample, maxSample, maxSample}, [8]api.SpectrumBin{bin(262136, 0, 0, 0)}},
		{[8]int{-maxSample, maxSample, -maxSample, maxSample, -maxSample, maxSample, -maxSample, maxSample}, [8]api.SpectrumBin{4: bin(-262136, 0, 0, 0)}},
	} {
		expect(t, v, shown(spectrum.EightOf(v.x)), shown(v.s, api.OK))
		expect(t, v, shown(spectrum.FromEight(v.s)), shown(v.x, api.OK))
	}
}

// P6.1 and P6.9: by the document's definitions, and taken back
func TestTransformsOfSomeSamples(t *testing.T) {
	d := dice(1)
	for range 500 {
		x := [8]int(someNumbers(d, 8, []int{1, 9, maxSample}[d.IntN(3)]))
		expect(t, x, shown(spectrum.EightOf(x)), shown(eight(x), api.OK))
		expect(t, x, shown(spectrum.FromEight(eight(x))), shown(x, api.OK))
		y := [4]int(x[:4])
		expect(t, y, shown(spectrum.FourOf(y)), shown(four(y), api.OK))
		expect(t, y, shown(spectrum.FromFour(four(y))), shown(y, api.OK))
	}
}

// P6.9
func TestEvenBins(t *testing.T) {
	d := dice(2)
	for range 500 {
		x := [8]int(someNumbers(d, 8, []int{9, maxSample / 2}[d.IntN(2)]))
		var sums [4]int
		for n := range sums {
			sums[n] = x[n] + x[n+4]
		}
		s, e := spectrum.EightOf(x)
		expect(t, x, shown(e), shown(api.OK))
		u, e := spectrum.FourOf(sums)
		expect(t, x, shown(e), shown(api.OK))
		for k := range u {
			expect(t, x, shown(s[2*k]), shown(api.SpectrumBin{Plain: u[k]}))
		}
	}
}

// The edge case that the bins 0 and 4 have no mirror image
func TestMirrorImages(t *testing.T) {
	d := dice(3)
	for range 200 {
		x := [8]int(someNumbers(d, 8, maxSample))
		s, e := spectrum.EightOf(x)
		expect(t, x, shown(e), shown(api.OK))
		for k, b := range s {
			image := bin(b.Plain.Re, -b.Plain.Im, b.Root.Re, -b.Root.Im)
			expect(t, x, shown(s[(8-k)%8]), shown(image))
			if k%4 == 0 {
				expect(t, x, shown(b), shown(bin(b.Plain.Re, 0, 0, 0)))
			}
		}
	}
}

// P6.1
func TestErrorsOfTransforms(t *testing.T) {
	for _, n := range beyond(-maxSample, maxSample) {
		for at := range 8 {
			expect(t, n, shown(spectrum.EightOf([8]int(bad(8, at, n)))), shown([8]api.SpectrumBin{}, api.ErrRange))
		}
		for at := range 4 {
			expect(t, n, shown(spectrum.FourOf([4]int(bad(4, at, n)))), shown([4]api.Gauss{}, api.ErrRange))
		}
	}
}

// P6.1
func TestBinsBeyondTheLimits(t *testing.T) {
	for at := range 8 {
		for _, n := range beyond(-131068, 131068) {
			expect(t, n, shown(spectrum.FromFour(gauss(bad(8, at, n)...))), shown([4]int{}, api.ErrRange))
		}
		for _, n := range []int{131068, -131068} {
			if at > 0 && at != 4 {
				expect(t, n, shown(spectrum.FromFour(gauss(bad(8, at, n)...))), shown([4]int{}, api.ErrForm))
			}
		}
	}
	for at := range 32 {
		inBin := func(n int) [8]api.SpectrumBin {
			var s [8]api.SpectrumBin
			part := bad(4, at%4, n)
			s[at/4] = bin(part[0], part[1], part[2], part[3])
			return s
		}
		for _, n := range beyond(-262136, 262136) {
			expect(t, n, shown(spectrum.FromEight(inBin(n))), shown([8]int{}, api.ErrRange))
			// Of several errors the first one.
			s := inBin(n)
			s[0].Plain.Im = 1
			if at != 1 {
				expect(t, n, shown(spectrum.FromEight(s)), shown([8]int{}, api.ErrRange))
			}
		}
		for _, n := range []int{262136, -262136} {
			if at != 0 && at != 16 {
				expect(t, n, shown(spectrum.FromEight(inBin(n))), shown([8]int{}, api.ErrForm))
			}
		}
	}
}

// P6.1
func TestBinsOfNoSamples(t *testing.T) {
	d := dice(4)
	for range 100 {
		x := [8]int(someNumbers(d, 8, 30000))
		transform := eight(x)
		for change := -17; change <= 17; change++ {
			for at := range 32 {
				s := transform
				part := bad(4, at%4, change)
				b := &s[at/4]
				*b = bin(b.Plain.Re+part[0], b.Plain.Im+part[1], b.Root.Re+part[2], b.Root.Im+part[3])
				got := shown(spectrum.FromEight(s))
				// A part of a single bin changes only without a mirror image, and by whole samples only if all of them change equally.
				if change%8 != 0 || change != 0 && at != 0 && at != 16 {
					expect(t, s, got, shown([8]int{}, api.ErrForm))
					continue
				}
				y := x
				for n := range y {
					y[n] += change / 8 * (1 - n%2*(at/16)*2)
				}
				expect(t, s, got, shown(y, api.OK))
			}
		}
	}
}

// P6.1
func TestBinsOfNoFourSamples(t *testing.T) {
	d := dice(5)
	for range 100 {
		x := [4]int(someNumbers(d, 4, 30000))
		for change := -9; change <= 9; change++ {
			for at := range 8 {
				s := four(x)
				part := bad(2, at%2, change)
				s[at/2].Re += part[0]
				s[at/2].Im += part[1]
				got := shown(spectrum.FromFour(s))
				if change%4 != 0 || change != 0 && at != 0 && at != 4 {
					expect(t, s, got, shown([4]int{}, api.ErrForm))
					continue
				}
				y := x
				for n := range y {
					y[n] += change / 4 * (1 - n%2*(at/4)*2)
				}
				expect(t, s, got, shown(y, api.OK))
			}
		}
	}
}

// P6.1: bins within the limits may have samples beyond theirs.
func TestBinsOfSamplesBeyondTheLimit(t *testing.T) {
	for _, n := range []int{32768, -32768, 65534, -65534} {
		for at := range 8 {
			s := eight([8]int(bad(8, at, n)))
			expect(t, n, shown(spectrum.FromEight(s)), shown([8]int{}, api.ErrRange))
			s[1].Plain.Re++
			expect(t, n, shown(spectrum.FromEight(s)), shown([8]int{}, api.ErrForm))
		}
		for at := range 4 {
			s := four([4]int(bad(4, at, n)))
			expect(t, n, shown(spectrum.FromFour(s)), shown([4]int{}, api.ErrRange))
			s[1].Re++
			expect(t, n, shown(spectrum.FromFour(s)), shown([4]int{}, api.ErrForm))
		}
	}
	for _, n := range []int{131068, -131068} {
		expect(t, n, shown(spectrum.FromFour(gauss(n, 0, n, 0, n, 0, n))), shown([4]int{}, api.ErrRange))
	}
	for _, n := range []int{262136, -262136} {
		s := [8]api.SpectrumBin{}
		for k := range s {
			s[k].Plain.Re = n
		}
		expect(t, n, shown(spectrum.FromEight(s)), shown([8]int{}, api.ErrRange))
	}
}
