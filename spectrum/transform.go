package spectrum

import "lacquer/api"

// bin is the complex number plain plus half the root of 2 times root. All parts are whole, and small enough to be exact.
type bin struct{ plain, root complex128 }

// rootPowers are the powers of W, the eighth root of unity.
var rootPowers = [api.SpectrumLength]api.SpectrumBin{
	{Plain: api.Gauss{Re: 1}},
	{Root: api.Gauss{Re: 1, Im: -1}},
	{Plain: api.Gauss{Im: -1}},
	{Root: api.Gauss{Re: -1, Im: -1}},
	{Plain: api.Gauss{Re: -1}},
	{Root: api.Gauss{Re: -1, Im: 1}},
	{Plain: api.Gauss{Im: 1}},
	{Root: api.Gauss{Re: 1, Im: 1}},
}

func power(n int) bin {
	return binOf(rootPowers[n%len(rootPowers)])
}

func binOf(b api.SpectrumBin) bin {
	return bin{plain: complexOf(b.Plain), root: complexOf(b.Root)}
}

func complexOf(g api.Gauss) complex128 {
	return complex(float64(g.Re), float64(g.Im))
}

func gaussOf(z complex128) api.Gauss {
	return api.Gauss{Re: int(real(z)), Im: int(imag(z))}
}

func (b bin) plus(c bin) bin {
	return bin{plain: b.plain + c.plain, root: b.root + c.root}
}

func (b bin) times(n int) bin {
	factor := complex(float64(n), 0)
	return bin{plain: factor * b.plain, root: factor * b.root}
}

// mirrored returns a bin whose imaginary part has the other sign.
func (b bin) mirrored() bin {
	return bin{plain: mirror(b.plain), root: mirror(b.root)}
}

func mirror(z complex128) complex128 {
	return complex(real(z), -imag(z))
}

// twiceReal returns twice the real part of a product. Doubled, its parts are whole.
func (b bin) twiceReal(c bin) surd {
	return surd{
		plain: int(real(2*b.plain*c.plain + b.root*c.root)),
		root:  int(real(b.plain*c.root + b.root*c.plain)),
	}
}

// binsOf returns the transform of four or eight samples.
func binsOf(x []int) []bin {
	step := len(rootPowers) / len(x)
	bins := make([]bin, len(x))
	for k := range bins {
		for n, sample := range x {
			bins[k] = bins[k].plus(power(step * k * n).times(sample))
		}
	}
	return bins
}

// valuesOf transforms four or eight bins back, if they have real values. It returns each value times valueScale.
func valuesOf(bins []bin) []surd {
	step := len(rootPowers) / len(bins)
	values := make([]surd, len(bins))
	for n := range values {
		for k, b := range bins {
			values[n] = values[n].plus(b.twiceReal(power(step * k * n).mirrored()))
		}
		values[n] = values[n].times(step)
	}
	return values
}

// valueScale is by what valuesOf multiplies the values, so that they are whole.
const valueScale = 2 * api.SpectrumLength

// samplesOf returns the only whole samples that four or eight bins may have.
func samplesOf(bins []bin) []int {
	var x []int
	for _, v := range valuesOf(bins) {
		x = append(x, v.plain/valueScale)
	}
	return x
}

// FourOf returns the transform of four samples (P6.1).
func FourOf(x [4]int) ([4]api.Gauss, api.Errno) {
	if e := checkSamples(x[:]); e != api.OK {
		return [4]api.Gauss{}, e
	}
	return fourOf(x), api.OK
}

func fourOf(x [4]int) [4]api.Gauss {
	var s [4]api.Gauss
	for k, b := range binsOf(x[:]) {
		s[k] = gaussOf(b.plain)
	}
	return s
}

// FromFour returns the four samples with a transform (P6.1).
func FromFour(s [4]api.Gauss) ([4]int, api.Errno) {
	var bins []bin
	for _, g := range s {
		if e := checkGauss(g, 4*api.MaxSample); e != api.OK {
			return [4]int{}, e
		}
		bins = append(bins, bin{plain: complexOf(g)})
	}
	x := [4]int(samplesOf(bins))
	if e := firstError(when(fourOf(x) != s, api.ErrForm), checkSamples(x[:])); e != api.OK {
		return [4]int{}, e
	}
	return x, api.OK
}

// EightOf returns the transform of eight samples (P6.1).
func EightOf(x [8]int) ([8]api.SpectrumBin, api.Errno) {
	if e := checkSamples(x[:]); e != api.OK {
		return [8]api.SpectrumBin{}, e
	}
	return eightOf(x), api.OK
}

func eightOf(x [8]int) [8]api.SpectrumBin {
	var s [8]api.SpectrumBin
	for k, b := range binsOf(x[:]) {
		s[k] = api.SpectrumBin{Plain: gaussOf(b.plain), Root: gaussOf(b.root)}
	}
	return s
}

// FromEight returns the eight samples with a transform (P6.1).
func FromEight(s [8]api.SpectrumBin) ([8]int, api.Errno) {
	var bins []bin
	for _, b := range s {
		if e := checkParts(b); e != api.OK {
			return [8]int{}, e
		}
		bins = append(bins, binOf(b))
	}
	x := [8]int(samplesOf(bins))
	if e := firstError(when(eightOf(x) != s, api.ErrForm), checkSamples(x[:])); e != api.OK {
		return [8]int{}, e
	}
	return x, api.OK
}

func checkGauss(g api.Gauss, limit int) api.Errno {
	return checkEach([]int{g.Re, g.Im}, atMost(limit))
}

// checkParts returns the error of a bin of eight samples.
func checkParts(b api.SpectrumBin) api.Errno {
	const limit = api.SpectrumLength * api.MaxSample
	return firstError(checkGauss(b.Plain, limit), checkGauss(b.Root, limit))
}
