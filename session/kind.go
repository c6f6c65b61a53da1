package session

import (
	"lacquer/api"
	"lacquer/click"
	"lacquer/join"
	"lacquer/resample"
	"lacquer/spectrum"
)

// renderer makes the signal of a step from those of its inputs.
type renderer func(inputs [][]int) ([]int, api.Errno)

// stepKind is what all steps of a kind have in common.
type stepKind struct {
	word       string
	mostInputs int
	read       func(text string) (renderer, api.Errno)
}

func stepKinds() [api.SessionSteps]stepKind {
	return [api.SessionSteps]stepKind{
		api.SessionResample: {"resample", 1, readerOf(resample.ParseRules, ofOne(resample.Resampled))},
		api.SessionMend:     {"mend", 1, readerOf(click.ParseRules, ofOne(click.Mended))},
		api.SessionEdit:     {"edit", 1, readerOf(spectrum.ParseEdit, ofOne(spectrum.Edited))},
		api.SessionJoin:     {"join", api.MaxSessionInputs, readerOf(join.ParsePlan, join.Joined)},
		api.SessionGain:     {"gain", 1, readerOf(parseGain, ofOne(amplified))},
		api.SessionCut:      {"cut", 1, readerOf(parseCut, ofOne(cutOut))},
	}
}

// readerOf returns a reader of rules, whatever their type is: what it has read is kept by the closure that renders.
func readerOf[R any](parse func(string) (R, api.Errno), render func(R, [][]int) ([]int, api.Errno)) func(string) (renderer, api.Errno) {
	return func(text string) (renderer, api.Errno) {
		rules, e := parse(text)
		if e != api.OK {
			return nil, e
		}
		return func(inputs [][]int) ([]int, api.Errno) { return render(rules, inputs) }, api.OK
	}
}

// ofOne makes a function of one signal one of all inputs, which are not more than one then.
func ofOne[R any](render func(R, []int) ([]int, api.Errno)) func(R, [][]int) ([]int, api.Errno) {
	return func(rules R, inputs [][]int) ([]int, api.Errno) { return render(rules, inputs[0]) }
}

func isStepKind(kind int) bool {
	return kind >= 0 && kind < api.SessionSteps
}

// checkRules returns the error of the rules of a kind that is valid.
func checkRules(kind int, text string) api.Errno {
	_, e := stepKinds()[kind].read(text)
	return e
}
