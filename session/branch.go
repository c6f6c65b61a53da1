package session

import (
	"maps"
	"slices"

	"lacquer/api"
)

// Differences returns the names of the steps that differ between two sessions (P8.6).
func Differences(s []api.SessionSource, a, b []api.SessionStep) ([]string, api.Errno) {
	first, second, e := checkedBoth(s, a, b)
	if e != api.OK {
		return nil, e
	}
	return differing(first, second), api.OK
}

func checkedBoth(s []api.SessionSource, a, b []api.SessionStep) (graph, graph, api.Errno) {
	first, _, e := checked(s, a)
	if e != api.OK {
		return graph{}, graph{}, e
	}
	second, _, e := checked(s, b)
	return first, second, e
}

func differing(a, b graph) []string {
	return slices.DeleteFunc(namesIn(a, b), func(name string) bool { return sameSteps(a.steps[name], b.steps[name]) })
}

// namesIn returns the names of the steps of all graphs, ascending.
func namesIn(l ...graph) []string {
	found := map[string]bool{}
	for _, g := range l {
		for _, name := range g.names {
			found[name] = true
		}
	}
	return slices.Sorted(maps.Keys(found))
}

// Merged returns the steps of two branches that began from a base, or the names of their conflicts (P8.6).
func Merged(s []api.SessionSource, x api.SessionBranches) ([]api.SessionStep, []string, api.Errno) {
	base, _, e := checked(s, x.Base)
	if e != api.OK {
		return nil, nil, e
	}
	a, b, e := checkedBoth(s, x.A, x.B)
	if e != api.OK {
		return nil, nil, e
	}
	var steps []api.SessionStep
	var conflicts []string
	for _, name := range namesIn(base, a, b) {
		step, agreed := agreement(base.steps[name], a.steps[name], b.steps[name])
		if !agreed {
			conflicts = append(conflicts, name)
		} else if step.Name != "" {
			steps = append(steps, copyOf(step))
		}
	}
	if len(conflicts) > 0 {
		return nil, conflicts, api.ErrClash
	}
	if _, e := CheckSteps(s, steps); e != api.OK {
		return nil, nil, e
	}
	return steps, nil, api.OK
}

// agreement returns what two branches make of a step of the base, unless there is a conflict. A step that does not exist has no name.
func agreement(base, a, b api.SessionStep) (api.SessionStep, bool) {
	if sameSteps(a, b) || sameSteps(b, base) {
		return a, true
	}
	return b, sameSteps(a, base)
}
