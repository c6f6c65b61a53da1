package resample

import "lacquer/api"

// running is an equalizer with its memory: the last output, and the one before it.
type running struct {
	api.ResampleEqualizer
	last, before int
}

// echo returns what the next output contains of the earlier ones.
func (r *running) echo() int {
	return down(r.First*r.last+r.Second*r.before, r.Den)
}

func (r *running) remember(output int) {
	r.before = r.last
	r.last = output
}

// CheckEqualizer returns the error of an equalizer (P4.5).
func CheckEqualizer(q api.ResampleEqualizer) api.Errno {
	return firstError(
		checkEach([]int{q.First, q.Second}, atMost(api.MaxResampleWeight)),
		from(1, api.MaxResampleWeight)(q.Den))
}

// Equalized returns the output of an equalizer (P4.5).
func Equalized(q api.ResampleEqualizer, x []int) ([]int, api.Errno) {
	if e := firstError(CheckEqualizer(q), checkSignal(x)); e != api.OK {
		return nil, e
	}
	r := running{ResampleEqualizer: q}
	var y []int
	for _, input := range x {
		output := input + r.echo()
		// The next echo could exceed what an int holds.
		if size(output) > api.MaxNumber {
			return nil, api.ErrBreak
		}
		r.remember(output)
		y = append(y, output)
	}
	return y, api.OK
}

// Restored returns the input of an equalizer with an output (P4.5).
func Restored(q api.ResampleEqualizer, y []int) ([]int, api.Errno) {
	if e := firstError(CheckEqualizer(q), checkNumbers(y, api.MaxNumber)); e != api.OK {
		return nil, e
	}
	r := running{ResampleEqualizer: q}
	var x []int
	for _, output := range y {
		x = append(x, output-r.echo())
		r.remember(output)
	}
	return x, api.OK
}

// StableBound returns the minimum bound of the output for an amplitude (P4.5).
func StableBound(q api.ResampleEqualizer, amplitude int) (int, api.Errno) {
	if e := firstError(CheckEqualizer(q), checkAmplitude(amplitude)); e != api.OK {
		return 0, e
	}
	left := q.Den - strength(q)
	if left <= 0 {
		return 0, api.ErrOpen
	}
	return up(amplitude*q.Den, left), api.OK
}

// CheckBound accepts a bound that the output for an amplitude cannot leave (P4.5).
func CheckBound(q api.ResampleEqualizer, amplitude, bound int) api.Errno {
	e := firstError(
		CheckEqualizer(q),
		checkAmplitude(amplitude),
		from(0, api.MaxNumber)(bound))
	if e != api.OK {
		return e
	}
	return when(amplitude+up(strength(q)*bound, q.Den) > bound, api.ErrProof)
}

func strength(q api.ResampleEqualizer) int {
	return size(q.First) + size(q.Second)
}
