package transfer

import (
	"slices"

	"lacquer/api"
)

// The head of packed bits is the predictor, and then the parameter.
const (
	predictorBits = 2
	parameterBits = 5
	headBits      = predictorBits + parameterBits
)

// predictors contains the factors with which a predictor takes the sample before, and the one before that.
var predictors = [api.TransferPredictors][2]int{{0, 0}, {1, 0}, {2, -1}}

// BitsFor returns the number of bits with a predictor and a parameter (P1.4).
func BitsFor(x [8]int, predictor, parameter int) (int, api.Errno) {
	e := firstError(
		checkSamples(x),
		checkRange(predictor, 0, api.TransferPredictors-1),
		checkRange(parameter, 0, api.TransferParameters-1))
	if e != api.OK {
		return 0, e
	}
	return bitsFor(foldedOf(x, predictor), parameter), api.OK
}

// PackedOf returns the packed bits of samples (P1.4).
func PackedOf(x [8]int) ([]int, api.Errno) {
	if e := checkSamples(x); e != api.OK {
		return nil, e
	}
	predictor, parameter := shortest(x)
	bits := appendBits(nil, predictor, predictorBits)
	bits = appendBits(bits, parameter, parameterBits)
	for _, u := range foldedOf(x, predictor) {
		bits = append(bits, slices.Repeat([]int{1}, u>>parameter)...)
		bits = append(bits, 0)
		bits = appendBits(bits, u, parameter)
	}
	return bits, api.OK
}

// Unpacked returns the samples with these bits (P1.4).
func Unpacked(bits []int) ([8]int, api.Errno) {
	e := firstError(
		when(len(bits) > api.MaxTransferBits, api.ErrLarge),
		checkEach(bits, from(0, 1)),
		when(len(bits) < headBits, api.ErrShape))
	if e != api.OK {
		return [8]int{}, e
	}
	predictor := numberIn(bits[:predictorBits])
	parameter := numberIn(bits[predictorBits:headBits])
	if predictor >= api.TransferPredictors || parameter >= api.TransferParameters {
		return [8]int{}, api.ErrForm
	}
	folded, ok := readCodes(bits[headBits:], parameter)
	if !ok {
		return [8]int{}, api.ErrShape
	}
	x := unfolded(folded, predictor)
	if e := checkSamples(x); e != api.OK {
		return [8]int{}, e
	}
	return x, api.OK
}

// shortest returns the predictor and the parameter of the packed bits.
func shortest(x [8]int) (predictor, parameter int) {
	least := bitsFor(foldedOf(x, 0), 0)
	for p := range api.TransferPredictors {
		folded := foldedOf(x, p)
		for k := range api.TransferParameters {
			if n := bitsFor(folded, k); n < least {
				predictor, parameter, least = p, k, n
			}
		}
	}
	return predictor, parameter
}

func bitsFor(folded [8]int, parameter int) int {
	n := headBits
	for _, u := range folded {
		n += u>>parameter + 1 + parameter
	}
	return n
}

// foldedOf returns the residuals as numbers u that are not negative.
func foldedOf(x [8]int, predictor int) [8]int {
	var folded [8]int
	for i := range x {
		r := x[i] - expected(x, i, predictor)
		folded[i] = max(2*r, -2*r-1)
	}
	return folded
}

// unfolded reverses foldedOf.
func unfolded(folded [8]int, predictor int) [8]int {
	var x [8]int
	for i, u := range folded {
		r := u / 2
		if u%2 == 1 {
			r = -r - 1
		}
		x[i] = expected(x, i, predictor) + r
	}
	return x
}

// expected returns what a predictor expects at the index i; it reads only samples before i.
func expected(x [8]int, i, predictor int) int {
	sum := 0
	for back, factor := range predictors[predictor] {
		if at := i - 1 - back; at >= 0 {
			sum += factor * x[at]
		}
	}
	return sum
}

// appendBits appends the lowest count bits of n, the highest of them first.
func appendBits(bits []int, n, count int) []int {
	for i := count - 1; i >= 0; i-- {
		bits = append(bits, n>>i&1)
	}
	return bits
}

// numberIn reverses appendBits.
func numberIn(bits []int) int {
	n := 0
	for _, bit := range bits {
		n = 2*n + bit
	}
	return n
}

// readCodes returns the numbers of eight codes, unless the bits are not exactly these codes.
func readCodes(bits []int, parameter int) ([8]int, bool) {
	var folded [8]int
	for i := range folded {
		ones := slices.Index(bits, 0)
		end := ones + 1 + parameter
		if ones < 0 || end > len(bits) {
			return [8]int{}, false
		}
		folded[i] = ones<<parameter + numberIn(bits[ones+1:end])
		bits = bits[end:]
	}
	return folded, len(bits) == 0
}
