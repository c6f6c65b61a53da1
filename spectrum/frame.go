package spectrum

import "lacquer/api"

// FramesIn returns the number of frames of a signal of a length (P6.3).
func FramesIn(length int) (int, api.Errno) {
	if e := checkLength(length); e != api.OK {
		return 0, e
	}
	return frameCount(length), api.OK
}

func frameCount(length int) int {
	if length == 0 {
		return 0
	}
	return (length+api.SpectrumHop-1)/api.SpectrumHop + 1
}

// positionsOf returns the positions of the samples of a frame, also those that no signal has.
func positionsOf(frame int) api.Range {
	first := api.SpectrumHop * (frame - 1)
	return api.Range{Lo: first, Hi: first + api.SpectrumLength - 1}
}

// framesOf returns all frames of a signal.
func framesOf(signal []int) [][8]int {
	padded := make([]int, api.SpectrumHop, len(signal)+api.SpectrumHop+api.SpectrumLength)
	padded = append(padded, signal...)
	padded = append(padded, make([]int, api.SpectrumLength)...)
	var frames [][8]int
	for frame := range frameCount(len(signal)) {
		frames = append(frames, [8]int(padded[api.SpectrumHop*frame:]))
	}
	return frames
}

// spectraOf returns the transforms of all frames of a signal.
func spectraOf(signal []int) [][]bin {
	var spectra [][]bin
	for _, frame := range framesOf(signal) {
		spectra = append(spectra, binsOf(frame[:]))
	}
	return spectra
}

// FrameAt returns a frame of a signal (P6.3).
func FrameAt(signal []int, frame int) ([8]int, api.Errno) {
	if e := checkSignal(signal); e != api.OK {
		return [8]int{}, e
	}
	if frame < 0 || frame >= frameCount(len(signal)) {
		return [8]int{}, api.ErrMissing
	}
	return framesOf(signal)[frame], api.OK
}

// Rebuilt returns the signal of a length that frames have (P6.3).
func Rebuilt(frames [][8]int, length int) ([]int, api.Errno) {
	e := firstError(
		checkLength(length),
		when(len(frames) != frameCount(length), api.ErrShape))
	if e != api.OK {
		return nil, e
	}
	var values [][]surd
	for _, frame := range frames {
		if e := checkSamples(frame[:]); e != api.OK {
			return nil, e
		}
		values = append(values, surdsOf(frame))
	}
	return rebuilt(values, 1, length), api.OK
}

func surdsOf(frame [8]int) []surd {
	var l []surd
	for _, sample := range frame {
		l = append(l, surd{plain: sample})
	}
	return l
}

// rebuilt returns the rounded weighted means of frames whose values are divided by den.
func rebuilt(frames [][]surd, den, length int) []int {
	const weights = 2 * api.SpectrumHop
	var x []int
	for i := range length {
		b, p := i/api.SpectrumHop, i%api.SpectrumHop
		weight := 2*p + 1
		former := frames[b][api.SpectrumHop+p].times(weights - weight)
		latter := frames[b+1][p].times(weight)
		x = append(x, former.plus(latter).rounded(weights*den))
	}
	return x
}
