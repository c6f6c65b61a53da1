package click

import (
	"iter"
	"slices"

	"lacquer/api"
)

const maxThreshold = 4 * api.MaxSample

// detector is one of the two ways in which samples are compared with their neighbours.
type detector interface {
	deviationAt(x []int, i int) int
}

type medianDetector struct{ window int }

type curveDetector struct{}

func (d medianDetector) deviationAt(x []int, i int) int {
	return size(x[i] - medianOf(x[max(0, i-d.window):min(len(x), i+d.window+1)]))
}

func (curveDetector) deviationAt(x []int, i int) int {
	return size(secondDifference(x, i))
}

// detectorOf returns the detector of valid rules.
func detectorOf(r api.ClickRules) detector {
	if r.Kind == api.ClickMedian {
		return medianDetector{window: r.Window}
	}
	return curveDetector{}
}

// CheckRules returns the error of rules (P5.1).
func CheckRules(r api.ClickRules) api.Errno {
	return firstError(
		checkKind(r.Kind),
		checkWindow(r),
		from(0, maxThreshold)(r.Threshold),
		from(api.MinClickJoin, api.MaxClickJoin)(r.Join),
		from(1, api.MaxClickRun)(r.Most),
		from(0, api.ClickPercent)(r.Percent))
}

func checkKind(kind int) api.Errno {
	return when(kind < 0 || kind >= api.ClickKinds, api.ErrKind)
}

func checkWindow(r api.ClickRules) api.Errno {
	if r.Kind == api.ClickMedian {
		return from(1, api.MaxClickWindow)(r.Window)
	}
	return when(r.Window != 0, api.ErrForm)
}

// Deviations returns the deviation of each sample (P5.2).
func Deviations(r api.ClickRules, x []int) ([]int, api.Errno) {
	if e := firstError(CheckRules(r), checkSignal(x)); e != api.OK {
		return nil, e
	}
	d := detectorOf(r)
	var deviations []int
	for i := range x {
		deviations = append(deviations, d.deviationAt(x, i))
	}
	return deviations, api.OK
}

// Clicks returns all runs that are mended (P5.2).
func Clicks(r api.ClickRules, x []int) ([]api.ClickRun, api.Errno) {
	return runsWith(r, x, func(run api.Range) bool { return lengthOf(run) <= r.Most })
}

// Passages returns all runs that are too long to be mended (P5.2).
func Passages(r api.ClickRules, x []int) ([]api.ClickRun, api.Errno) {
	return runsWith(r, x, func(run api.Range) bool { return lengthOf(run) > r.Most })
}

func runsWith(r api.ClickRules, x []int, isWanted func(api.Range) bool) ([]api.ClickRun, api.Errno) {
	deviations, e := Deviations(r, x)
	if e != api.OK {
		return nil, e
	}
	var runs []api.ClickRun
	for run := range runsOf(r, deviations) {
		if isWanted(run) {
			runs = append(runs, withPeak(run, deviations))
		}
	}
	return runs, api.OK
}

// runsOf yields the runs of a signal with these deviations.
func runsOf(r api.ClickRules, deviations []int) iter.Seq[api.Range] {
	return func(yield func(api.Range) bool) {
		var run api.Range
		isOpen := false
		for i, deviation := range deviations {
			if deviation <= r.Threshold {
				continue
			}
			if isOpen && i-run.Hi-1 <= r.Join {
				run.Hi = i
				continue
			}
			if isOpen && !yield(run) {
				return
			}
			run = api.Range{Lo: i, Hi: i}
			isOpen = true
		}
		if isOpen {
			yield(run)
		}
	}
}

// withPeak adds to a run the first index of its maximum deviation.
func withPeak(run api.Range, deviations []int) api.ClickRun {
	peak := run.Lo
	for i := run.Lo; i <= run.Hi; i++ {
		if deviations[i] > deviations[peak] {
			peak = i
		}
	}
	return api.ClickRun{Run: run, Peak: peak, Deviation: deviations[peak]}
}

func lengthOf(r api.Range) int {
	return r.Hi - r.Lo + 1
}

// medianOf returns the number in the middle, of two the lower one.
func medianOf(l []int) int {
	sorted := slices.Clone(l)
	slices.Sort(sorted)
	return sorted[(len(sorted)-1)/2]
}
