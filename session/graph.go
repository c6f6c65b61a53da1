package session

import (
	"slices"

	"lacquer/api"
)

// graph is sources and steps that are found by their names.
type graph struct {
	sources map[string][]int
	steps   map[string]api.SessionStep
	list    []api.SessionStep
	names   []string
}

func graphOf(s []api.SessionSource, l []api.SessionStep) graph {
	g := graph{sources: map[string][]int{}, steps: map[string]api.SessionStep{}, list: l}
	for _, source := range s {
		g.sources[source.Name] = source.Signal
	}
	for _, step := range l {
		g.steps[step.Name] = step
		g.names = append(g.names, step.Name)
	}
	return g
}

func (g graph) isSource(name string) bool {
	_, ok := g.sources[name]
	return ok
}

func (g graph) isStep(name string) bool {
	_, ok := g.steps[name]
	return ok
}

// areReady tells whether each input, if it is a step, is active. An input that does not exist is not ready.
func (g graph) areReady(inputs []string) bool {
	for _, name := range inputs {
		if !g.isSource(name) && !g.steps[name].Active {
			return false
		}
	}
	return true
}

// isUsed tells whether an active step has this input.
func (g graph) isUsed(name string) bool {
	return slices.ContainsFunc(g.list, func(step api.SessionStep) bool {
		return step.Active && slices.Contains(step.Inputs, name)
	})
}

// checkActiveName returns the error of the name of an active step.
func (g graph) checkActiveName(name string) api.Errno {
	return firstError(
		when(!g.isStep(name), api.ErrMissing),
		when(!g.steps[name].Active, api.ErrState))
}

// neededBy returns the sources and the steps that a step needs.
func (g graph) neededBy(name string) map[string]bool {
	needed := map[string]bool{}
	g.addNeeded(name, needed)
	return needed
}

func (g graph) addNeeded(name string, needed map[string]bool) {
	for _, input := range g.steps[name].Inputs {
		// Without a second look at what is needed already a circle would not end.
		if !needed[input] {
			needed[input] = true
			g.addNeeded(input, needed)
		}
	}
}

// stepsThat returns the names of the steps for which a condition holds, ascending.
func (g graph) stepsThat(holds func(api.SessionStep) bool) []string {
	var names []string
	for _, step := range g.list {
		if holds(step) {
			names = append(names, step.Name)
		}
	}
	return names
}

// order returns the names of the active steps, each one after all that it needs.
func (g graph) order() []string {
	var ordered []string
	for {
		next := slices.IndexFunc(g.list, func(step api.SessionStep) bool {
			return step.Active && !slices.Contains(ordered, step.Name) && g.areOrdered(step.Inputs, ordered)
		})
		if next < 0 {
			return ordered
		}
		ordered = append(ordered, g.names[next])
	}
}

func (g graph) areOrdered(inputs, ordered []string) bool {
	for _, name := range inputs {
		if g.isStep(name) && !slices.Contains(ordered, name) {
			return false
		}
	}
	return true
}

// NeededBy returns the names of the steps that a step needs (P8.3).
func NeededBy(s []api.SessionSource, l []api.SessionStep, name string) ([]string, api.Errno) {
	g, e := checkedWith(s, l, func(g graph) bool { return g.isStep(name) })
	if e != api.OK {
		return nil, e
	}
	needed := g.neededBy(name)
	return g.stepsThat(func(step api.SessionStep) bool { return needed[step.Name] }), api.OK
}

// UsersOf returns the names of the active steps that need a source or a step (P8.3).
func UsersOf(s []api.SessionSource, l []api.SessionStep, name string) ([]string, api.Errno) {
	g, e := checkedWith(s, l, func(g graph) bool { return g.isStep(name) || g.isSource(name) })
	if e != api.OK {
		return nil, e
	}
	return g.stepsThat(func(step api.SessionStep) bool { return step.Active && g.neededBy(step.Name)[name] }), api.OK
}

// OrderOf returns the names of the active steps in the order in which they can be added (P8.3).
func OrderOf(s []api.SessionSource, l []api.SessionStep) ([]string, api.Errno) {
	g, _, e := checked(s, l)
	if e != api.OK {
		return nil, e
	}
	return g.order(), api.OK
}

// UndoPlan returns the names of the steps that must be undone so that a step is (P8.3).
func UndoPlan(s []api.SessionSource, l []api.SessionStep, name string) ([]string, api.Errno) {
	g, _, e := checked(s, l)
	if e = firstError(e, g.checkActiveName(name)); e != api.OK {
		return nil, e
	}
	plan := slices.DeleteFunc(g.order(), func(other string) bool {
		return other != name && !g.neededBy(other)[name]
	})
	slices.Reverse(plan)
	return plan, api.OK
}

// Essence returns the active steps (P8.3).
func Essence(s []api.SessionSource, l []api.SessionStep) ([]api.SessionStep, api.Errno) {
	g, _, e := checked(s, l)
	if e != api.OK {
		return nil, e
	}
	return slices.DeleteFunc(copiesOf(g.list), func(step api.SessionStep) bool { return !step.Active }), api.OK
}

// DoubtOf returns the maximum doubt of a step and all that it needs, and the names of those that have it (P8.3).
func DoubtOf(s []api.SessionSource, l []api.SessionStep, name string) (int, []string, api.Errno) {
	g, e := checkedWith(s, l, func(g graph) bool { return g.isStep(name) })
	if e != api.OK {
		return 0, nil, e
	}
	concerned := g.neededBy(name)
	concerned[name] = true
	most := 0
	for other := range concerned {
		most = max(most, g.steps[other].Doubt)
	}
	return most, g.stepsThat(func(step api.SessionStep) bool { return concerned[step.Name] && step.Doubt == most }), api.OK
}

// checkedWith returns sources and steps as a graph, or their error, and ErrMissing if the graph does not have what is asked for.
func checkedWith(s []api.SessionSource, l []api.SessionStep, has func(graph) bool) (graph, api.Errno) {
	g, _, e := checked(s, l)
	if e = firstError(e, when(!has(g), api.ErrMissing)); e != api.OK {
		return graph{}, e
	}
	return g, api.OK
}
