package listen

import (
	"iter"

	"lacquer/api"
)

// TruePeak returns the maximum size of all samples and of all fine values between them (P9.2).
func TruePeak(x []int) (api.Frac, api.Errno) {
	if e := checkSignal(x); e != api.OK {
		return api.Frac{}, e
	}
	return fractionOf(finePeak(x), api.ListenFine), api.OK
}

// Headroom returns the greatest sample divided by the true peak (P9.2).
func Headroom(x []int) (api.Frac, api.Errno) {
	if e := checkSignal(x); e != api.OK {
		return api.Frac{}, e
	}
	peak := finePeak(x)
	if peak == 0 {
		return api.Frac{}, api.ErrZero
	}
	return fractionOf(api.MaxSample*api.ListenFine, peak), api.OK
}

// finePeak returns the true peak, times ListenFine.
func finePeak(x []int) int {
	var peak float32
	for _, n := range x {
		peak = max(peak, api.ListenFine*size(float32(n)))
	}
	for n := range fineValues(x) {
		peak = max(peak, size(n))
	}
	return int(peak)
}

// fineValues yields all fine values, times ListenFine. These are whole and less than 2^24 in size, and so are all sums on the way to them: single precision is exact.
func fineValues(x []int) iter.Seq[float32] {
	weights := [...][4]float32{{-7, 105, 35, -5}, {-8, 72, 72, -8}, {-5, 35, 105, -7}}
	return func(yield func(float32) bool) {
		for i := range len(x) - 1 {
			around := [4]float32{sampleAt(x, i-1), sampleAt(x, i), sampleAt(x, i+1), sampleAt(x, i+2)}
			for _, w := range weights {
				if !yield(weighted(w, around)) {
					return
				}
			}
		}
	}
}

func weighted(weights, samples [4]float32) float32 {
	var sum float32
	for i, w := range weights {
		sum += w * samples[i]
	}
	return sum
}

// sampleAt returns a sample of a signal, 0 where there is none.
func sampleAt(x []int, index int) float32 {
	if index < 0 || index >= len(x) {
		return 0
	}
	return float32(x[index])
}

func size(n float32) float32 {
	return max(n, -n)
}
