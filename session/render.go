package session

import "lacquer/api"

// Render returns the signal that is the result of a step (P8.4).
func Render(s []api.SessionSource, l []api.SessionStep, name string) ([]int, api.Errno) {
	g, _, e := checked(s, l)
	if e = firstError(e, g.checkActiveName(name)); e != api.OK {
		return nil, e
	}
	result := g.resultOf(name)
	return result.Signal, result.Error
}

// RenderAll returns the results of all active steps (P8.4).
func RenderAll(s []api.SessionSource, l []api.SessionStep) ([]api.SessionResult, api.Errno) {
	g, _, e := checked(s, l)
	if e != api.OK {
		return nil, e
	}
	results := map[string]api.SessionResult{}
	for _, name := range g.order() {
		results[name] = g.rendered(name, results)
	}
	return g.listed(results), api.OK
}

// resultOf renders an active step, and what it needs.
func (g graph) resultOf(name string) api.SessionResult {
	needed := g.neededBy(name)
	results := map[string]api.SessionResult{}
	for _, other := range g.order() {
		if other == name || needed[other] {
			results[other] = g.rendered(other, results)
		}
	}
	return results[name]
}

// rendered returns the result of a step whose inputs have their results.
func (g graph) rendered(name string, results map[string]api.SessionResult) api.SessionResult {
	step := g.steps[name]
	inputs, e := g.signalsOf(step.Inputs, results)
	if e != api.OK {
		return api.SessionResult{Name: name, Error: e}
	}
	signal, e := rendering(step, inputs)
	if e != api.OK {
		return api.SessionResult{Name: name, Error: e}
	}
	return api.SessionResult{Name: name, Signal: signal}
}

// signalsOf returns the signals of inputs, or the error of the first one that has one instead.
func (g graph) signalsOf(inputs []string, results map[string]api.SessionResult) ([][]int, api.Errno) {
	var signals [][]int
	for _, name := range inputs {
		signal := g.sources[name]
		if g.isStep(name) {
			result := results[name]
			if result.Error != api.OK {
				return nil, result.Error
			}
			signal = result.Signal
		}
		signals = append(signals, signal)
	}
	return signals, api.OK
}

func rendering(step api.SessionStep, inputs [][]int) ([]int, api.Errno) {
	render, e := stepKinds()[step.Kind].read(step.Text)
	if e != api.OK {
		return nil, e
	}
	signal, e := render(inputs)
	if e = firstError(e, checkSignal(signal, api.ErrBreak)); e != api.OK {
		return nil, e
	}
	return signal, api.OK
}

// listed returns results by names as a list.
func (g graph) listed(results map[string]api.SessionResult) []api.SessionResult {
	var l []api.SessionResult
	for _, name := range g.names {
		if result, ok := results[name]; ok {
			l = append(l, result)
		}
	}
	return l
}
