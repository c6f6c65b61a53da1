package session

import (
	"slices"

	"lacquer/api"
)

// CheckSources returns the error of sources, and the index of the source that has it (P8.1).
func CheckSources(l []api.SessionSource) (int, api.Errno) {
	if len(l) > api.MaxSessionSources {
		return 0, api.ErrLarge
	}
	var names []string
	for _, source := range l {
		names = append(names, source.Name)
	}
	return checkItems(len(l), func(i int) api.Errno {
		return firstError(
			checkName(l[i].Name),
			checkSignal(l[i].Signal, api.ErrRange),
			checkOrder(names, i))
	})
}

// CheckSteps returns the error of steps, and the index of the step that has it (P8.1).
func CheckSteps(s []api.SessionSource, l []api.SessionStep) (int, api.Errno) {
	_, i, e := checked(s, l)
	return i, e
}

// checked returns sources and steps as a graph, or their error with its index.
func checked(s []api.SessionSource, l []api.SessionStep) (graph, int, api.Errno) {
	if _, e := CheckSources(s); e != api.OK {
		return graph{}, 0, e
	}
	if len(l) > api.MaxSessionSteps {
		return graph{}, 0, api.ErrLarge
	}
	g := graphOf(s, l)
	for _, check := range []func(int) api.Errno{g.checkStep, g.checkInputs, g.checkActive, g.checkCircle} {
		if i, e := checkItems(len(l), check); e != api.OK {
			return graph{}, i, e
		}
	}
	return g, 0, api.OK
}

func (g graph) checkStep(index int) api.Errno {
	step := g.list[index]
	return firstError(
		checkAlone(step),
		when(g.isSource(step.Name), api.ErrExists),
		checkOrder(g.names, index))
}

func (g graph) checkInputs(index int) api.Errno {
	return checkEach(g.list[index].Inputs, func(name string) api.Errno {
		return when(!g.isSource(name) && !g.isStep(name), api.ErrMissing)
	})
}

func (g graph) checkActive(index int) api.Errno {
	step := g.list[index]
	return when(step.Active && !g.areReady(step.Inputs), api.ErrGap)
}

func (g graph) checkCircle(index int) api.Errno {
	name := g.list[index].Name
	return when(g.neededBy(name)[name], api.ErrClash)
}

// checkAlone returns the error that a step has whatever the other steps are.
func checkAlone(step api.SessionStep) api.Errno {
	e := firstError(
		checkName(step.Name),
		when(!isStepKind(step.Kind), api.ErrKind))
	if e != api.OK {
		return e
	}
	e = firstError(
		when(len(step.Inputs) == 0 || len(step.Inputs) > stepKinds()[step.Kind].mostInputs, api.ErrShape),
		checkEach(step.Inputs, checkName),
		checkName(step.By),
		checkDoubt(step.Doubt),
		checkText(step.Text))
	if e != api.OK {
		return e
	}
	return checkRules(step.Kind, step.Text)
}

// sameRendering tells whether two steps with the same inputs have the same result, whoever decided them.
func sameRendering(a, b api.SessionStep) bool {
	return a.Kind == b.Kind && slices.Equal(a.Inputs, b.Inputs) && a.Text == b.Text
}

func sameSteps(a, b api.SessionStep) bool {
	return sameRendering(a, b) && a.Name == b.Name && a.By == b.By && a.Doubt == b.Doubt && a.Active == b.Active
}

func copyOf(step api.SessionStep) api.SessionStep {
	step.Inputs = slices.Clone(step.Inputs)
	return step
}

func copiesOf(l []api.SessionStep) []api.SessionStep {
	var copies []api.SessionStep
	for _, step := range l {
		copies = append(copies, copyOf(step))
	}
	return copies
}
