package spectrum

import "lacquer/api"

// cells tells what each cell is: that of a frame, times a gain.
type cells func(frame, bin int) api.SpectrumCell

// CheckEdit returns the error of an edit (P6.4).
func CheckEdit(e api.SpectrumEdit) api.Errno {
	return firstError(
		when(!isKind(e.Kind), api.ErrKind),
		checkRegion(e.Region),
		checkNumber(e))
}

func isKind(kind int) bool {
	return kind >= 0 && kind < api.SpectrumKinds
}

func checkNumber(e api.SpectrumEdit) api.Errno {
	if e.Kind == api.SpectrumCopy {
		return checkFrame(e.Number)
	}
	return from(0, api.MaxSpectrumGain)(e.Number)
}

// CheckEdits returns the error of edits, and the index of the edit that has it (P6.4).
func CheckEdits(l []api.SpectrumEdit) (int, api.Errno) {
	if len(l) > api.MaxSpectrumEdits {
		return 0, api.ErrLarge
	}
	for i, edit := range l {
		if e := CheckEdit(edit); e != api.OK {
			return i, e
		}
	}
	return 0, api.OK
}

// checkEdits returns the error of edits without its index.
func checkEdits(l []api.SpectrumEdit) api.Errno {
	_, e := CheckEdits(l)
	return e
}

// CellOf returns the cell that a cell is after edits (P6.4).
func CellOf(l []api.SpectrumEdit, frame, bin int) (api.SpectrumCell, api.Errno) {
	if e := firstError(checkEdits(l), checkFrame(frame), checkBin(bin)); e != api.OK {
		return api.SpectrumCell{}, e
	}
	return cellsAfter(l)(frame, bin), api.OK
}

// unedited is what a cell is without edits.
func unedited(frame, _ int) api.SpectrumCell {
	return api.SpectrumCell{Frame: frame, Gain: api.Frac{Num: 1, Den: 1}}
}

func cellsAfter(l []api.SpectrumEdit) cells {
	after := cells(unedited)
	for _, e := range l {
		after = edited(e, after)
	}
	return after
}

// edited returns what the cells are after an edit.
func edited(e api.SpectrumEdit, before cells) cells {
	return func(frame, bin int) api.SpectrumCell {
		if !holds(e.Region.Frames, frame) || !holds(e.Region.Bins, bin) {
			return before(frame, bin)
		}
		if e.Kind == api.SpectrumCopy {
			return before(frame-e.Region.Frames.Lo+e.Number, bin)
		}
		cell := before(frame, bin)
		cell.Gain = fractionOf(cell.Gain.Num*e.Number, cell.Gain.Den*api.SpectrumUnit)
		return cell
	}
}

func holds(r api.Range, n int) bool {
	return r.Lo <= n && n <= r.Hi
}

// fractionOf returns a fraction in lowest terms. No part is below 0, and the denominator is above 0.
func fractionOf(num, den int) api.Frac {
	divisor, rest := den, num
	for rest != 0 {
		divisor, rest = rest, divisor%rest
	}
	return api.Frac{Num: num / divisor, Den: den / divisor}
}

// TouchedBy returns the ranges of positions that edits may change (P6.5).
func TouchedBy(l []api.SpectrumEdit, length int) ([]api.Range, api.Errno) {
	if e := firstError(checkEdits(l), checkLength(length)); e != api.OK {
		return nil, e
	}
	after := cellsAfter(l)
	var ranges []api.Range
	for frame := range frameCount(length) {
		if isChanged(after, frame) {
			r := positionsOf(frame)
			ranges = withRange(ranges, api.Range{Lo: max(0, r.Lo), Hi: min(length-1, r.Hi)})
		}
	}
	return ranges, api.OK
}

// isChanged tells whether a cell of a frame is not itself.
func isChanged(after cells, frame int) bool {
	for k := range api.SpectrumBins {
		if after(frame, k) != unedited(frame, k) {
			return true
		}
	}
	return false
}

// withRange adds a range that does not begin before the last one to ranges, as a part of the last one if they touch.
func withRange(l []api.Range, r api.Range) []api.Range {
	last := len(l) - 1
	if last < 0 || r.Lo > l[last].Hi+1 {
		return append(l, r)
	}
	l[last].Hi = r.Hi
	return l
}
