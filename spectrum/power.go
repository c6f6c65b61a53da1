package spectrum

import "lacquer/api"

// PowerOf returns the power of a bin (P6.2).
func PowerOf(b api.SpectrumBin) (api.SpectrumPower, api.Errno) {
	if e := checkParts(b); e != api.OK {
		return api.SpectrumPower{}, e
	}
	p := powerOf(binOf(b))
	return api.SpectrumPower{Plain: p.plain, Root: p.root}, api.OK
}

func powerOf(b bin) surd {
	return b.twiceReal(b.mirrored())
}

// ComparePowers returns -1, 0 or 1 if the first power is less than, equal to, or greater than the second one (P6.2).
func ComparePowers(a, b api.SpectrumPower) (int, api.Errno) {
	parts := []int{a.Plain, a.Root, b.Plain, b.Root}
	if e := checkEach(parts, atMost(api.MaxSpectrumPower)); e != api.OK {
		return 0, e
	}
	return surd{plain: a.Plain, root: a.Root}.compare(surd{plain: b.Plain, root: b.Root}), api.OK
}

// StrongestIn returns the frame and the bin of the cell with the maximum power (P6.2).
func StrongestIn(signal []int, region api.SpectrumRegion) ([2]int, api.Errno) {
	if e := firstError(checkSignal(signal), checkRegion(region)); e != api.OK {
		return [2]int{}, e
	}
	spectra := spectraOf(signal)
	first := region.Frames.Lo
	if first >= len(spectra) {
		return [2]int{}, api.ErrNone
	}
	best := [2]int{first, region.Bins.Lo}
	most := powerOf(spectra[first][region.Bins.Lo])
	for frame := first; frame <= min(region.Frames.Hi, len(spectra)-1); frame++ {
		for k := region.Bins.Lo; k <= region.Bins.Hi; k++ {
			if p := powerOf(spectra[frame][k]); p.compare(most) > 0 {
				best = [2]int{frame, k}
				most = p
			}
		}
	}
	return best, api.OK
}
