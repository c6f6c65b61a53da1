package spectrum

import "lacquer/api"

// gainScale is a multiple of the denominators of all gains, as each of MaxSpectrumEdits edits may divide by SpectrumUnit.
const gainScale = api.SpectrumUnit * api.SpectrumUnit * api.SpectrumUnit * api.SpectrumUnit

// Edited returns a signal with one edit (P6.5).
func Edited(e api.SpectrumEdit, signal []int) ([]int, api.Errno) {
	return Rendered([]api.SpectrumEdit{e}, signal)
}

// Rendered returns a signal with edits (P6.5).
func Rendered(l []api.SpectrumEdit, signal []int) ([]int, api.Errno) {
	if e := firstError(checkEdits(l), checkSignal(signal)); e != api.OK {
		return nil, e
	}
	spectra, after := spectraOf(signal), cellsAfter(l)
	var frames [][]surd
	for frame := range spectra {
		frames = append(frames, valuesOf(editedBins(spectra, after, frame)))
	}
	y := rebuilt(frames, valueScale*gainScale, len(signal))
	if checkSamples(y) != api.OK {
		return nil, api.ErrBreak
	}
	return y, api.OK
}

// editedBins returns the bins of a frame after edits, times gainScale. Those of frames that the signal does not have are 0.
func editedBins(spectra [][]bin, after cells, frame int) []bin {
	bins := make([]bin, api.SpectrumLength)
	for k := range api.SpectrumBins {
		cell := after(frame, k)
		if cell.Frame >= len(spectra) {
			continue
		}
		factor := gainScale / cell.Gain.Den * cell.Gain.Num
		// The bins 0 and 4 are their own mirror images here.
		mirrorImage := (api.SpectrumLength - k) % api.SpectrumLength
		bins[k] = spectra[cell.Frame][k].times(factor)
		bins[mirrorImage] = spectra[cell.Frame][mirrorImage].times(factor)
	}
	return bins
}
