package resample

import (
	"cmp"

	"lacquer/api"
)

// CheckFilter returns the error of a filter (P4.4).
func CheckFilter(f api.ResampleFilter) api.Errno {
	return firstError(
		when(len(f.Coefficients) == 0, api.ErrShape),
		when(len(f.Coefficients) > api.MaxResampleTaps, api.ErrLarge),
		checkEach(f.Coefficients, atMost(api.MaxResampleWeight)),
		from(1, api.MaxResampleWeight)(f.Den))
}

// Filtered returns the output of a filter (P4.4).
func Filtered(f api.ResampleFilter, x []int) ([]int, api.Errno) {
	if e := firstError(CheckFilter(f), checkSignal(x)); e != api.OK {
		return nil, e
	}
	var y []int
	for n := range x {
		y = append(y, down(sumAt(f.Coefficients, x, n), f.Den))
	}
	return y, api.OK
}

// sumAt returns the sum of the coefficients times the inputs up to the index n.
func sumAt(coefficients, x []int, n int) int {
	sum := 0
	for k, c := range coefficients {
		if k <= n {
			sum += c * x[n-k]
		}
	}
	return sum
}

// MaximumOutput returns the maximum output for an amplitude (P4.4).
func MaximumOutput(f api.ResampleFilter, amplitude int) (api.Frac, api.Errno) {
	if e := firstError(CheckFilter(f), checkAmplitude(amplitude)); e != api.OK {
		return api.Frac{}, e
	}
	sum := 0
	for _, c := range f.Coefficients {
		sum += size(c) * amplitude
	}
	return fractionOf(sum, f.Den), api.OK
}

// WorstInput returns the input whose last output is the maximum one (P4.4).
func WorstInput(f api.ResampleFilter, amplitude int) ([]int, api.Errno) {
	if e := firstError(CheckFilter(f), checkAmplitude(amplitude)); e != api.OK {
		return nil, e
	}
	last := len(f.Coefficients) - 1
	x := make([]int, last+1)
	for k, c := range f.Coefficients {
		x[last-k] = cmp.Compare(c, 0) * amplitude
	}
	return x, api.OK
}

// Composed returns the filter with the product of the polynomials of two filters (P4.4).
func Composed(f, g api.ResampleFilter) (api.ResampleFilter, api.Errno) {
	if e := firstError(CheckFilter(f), CheckFilter(g)); e != api.OK {
		return api.ResampleFilter{}, e
	}
	product := api.ResampleFilter{
		Coefficients: make([]int, len(f.Coefficients)+len(g.Coefficients)-1),
		Den:          f.Den * g.Den,
	}
	for i, a := range f.Coefficients {
		for j, b := range g.Coefficients {
			product.Coefficients[i+j] += a * b
		}
	}
	// A product can be no filter only by exceeding a limit.
	if CheckFilter(product) != api.OK {
		return api.ResampleFilter{}, api.ErrLarge
	}
	return product, api.OK
}
