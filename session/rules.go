package session

import (
	"slices"
	"strings"

	"lacquer/api"
)

const (
	gainDigits = 4
	cutDigits  = 7
)

// gain is the fraction by which samples are multiplied. It need not be in lowest terms.
type gain struct{ num, den int }

func parseGain(text string) (gain, api.Errno) {
	first, second, hasBoth := strings.Cut(text, "/")
	num, numOK := signedNumberOf(first, gainDigits)
	den, denOK := numberOf(second, gainDigits)
	e := firstError(
		when(!hasBoth || !numOK || !denOK, api.ErrSyntax),
		when(max(num, -num) > api.MaxSessionFactor || den < 1 || den > api.MaxSessionFactor, api.ErrRange))
	if e != api.OK {
		return gain{}, e
	}
	return gain{num, den}, api.OK
}

// amplified does not look at how large its samples are: the samples of all results are checked.
func amplified(g gain, x []int) ([]int, api.Errno) {
	var y []int
	for _, sample := range x {
		y = append(y, nearest(sample*g.num, g.den))
	}
	return y, api.OK
}

// nearest returns num / den, rounded to the nearest number, halves upwards.
func nearest(num, den int) int {
	return floor(2*num+den, 2*den)
}

// floor returns num / den, rounded downwards; den is greater than 0.
func floor(num, den int) int {
	quotient := num / den
	if num%den < 0 {
		quotient--
	}
	return quotient
}

func parseCut(text string) (api.Range, api.Errno) {
	first, second, hasBoth := strings.Cut(text, " ")
	lo, loOK := numberOf(first, cutDigits)
	hi, hiOK := numberOf(second, cutDigits)
	e := firstError(
		when(!hasBoth || !loOK || !hiOK, api.ErrSyntax),
		when(lo > hi, api.ErrOrder))
	if e != api.OK {
		return api.Range{}, e
	}
	return api.Range{Lo: lo, Hi: hi}, api.OK
}

func cutOut(r api.Range, x []int) ([]int, api.Errno) {
	if r.Hi >= len(x) {
		return nil, api.ErrMissing
	}
	return slices.Clone(x[r.Lo : r.Hi+1]), api.OK
}
