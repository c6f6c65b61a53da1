package session

import (
	"cmp"
	"slices"

	"lacquer/api"
)

// CheckEvent returns the error of an event (P8.2).
func CheckEvent(e api.SessionEvent) api.Errno {
	step := e.Step
	switch e.Kind {
	case api.SessionAdd:
		return firstError(
			checkAlone(step),
			when(!step.Active, api.ErrForm))
	case api.SessionChange:
		return firstError(
			checkName(step.Name),
			when(step.Kind != 0 || len(step.Inputs) > 0 || step.Active, api.ErrForm),
			checkName(step.By),
			checkDoubt(step.Doubt),
			checkText(step.Text))
	case api.SessionUndo, api.SessionRedo:
		return firstError(
			checkName(step.Name),
			when(!sameSteps(step, api.SessionStep{Name: step.Name}), api.ErrForm))
	}
	return api.ErrKind
}

// Apply returns the steps after an event (P8.2).
func Apply(s []api.SessionSource, l []api.SessionStep, e api.SessionEvent) ([]api.SessionStep, api.Errno) {
	g, _, err := checked(s, l)
	if err != api.OK {
		return nil, err
	}
	return g.after(e)
}

// Replay returns the steps after events (P8.2).
func Replay(s []api.SessionSource, l []api.SessionEvent) ([]api.SessionStep, int, api.Errno) {
	_, e := CheckSources(s)
	if e = firstError(e, when(len(l) > api.MaxSessionEvents, api.ErrLarge)); e != api.OK {
		return nil, 0, e
	}
	var steps []api.SessionStep
	i, e := checkItems(len(l), func(i int) api.Errno {
		after, e := graphOf(s, steps).after(l[i])
		steps = after
		return e
	})
	return steps, i, e
}

// Possible returns the events that undo a step or do it again, as far as they are accepted (P8.2).
func Possible(s []api.SessionSource, l []api.SessionStep) ([]api.SessionEvent, api.Errno) {
	g, _, e := checked(s, l)
	if e != api.OK {
		return nil, e
	}
	var events []api.SessionEvent
	for _, step := range g.list {
		for _, kind := range []int{api.SessionUndo, api.SessionRedo} {
			event := api.SessionEvent{Kind: kind, Step: api.SessionStep{Name: step.Name}}
			if g.refusalOf(event) == api.OK {
				events = append(events, event)
			}
		}
	}
	return events, api.OK
}

// after returns the steps after an event, or its error.
func (g graph) after(event api.SessionEvent) ([]api.SessionStep, api.Errno) {
	if e := CheckEvent(event); e != api.OK {
		return nil, e
	}
	if e := g.refusalOf(event); e != api.OK {
		return nil, e
	}
	steps := copiesOf(g.list)
	if event.Kind == api.SessionAdd {
		return inserted(steps, copyOf(event.Step)), api.OK
	}
	step := &steps[slices.Index(g.names, event.Step.Name)]
	switch event.Kind {
	case api.SessionChange:
		step.Text, step.By, step.Doubt = event.Step.Text, event.Step.By, event.Step.Doubt
	case api.SessionUndo:
		step.Active = false
	case api.SessionRedo:
		step.Active = true
	}
	return steps, api.OK
}

func inserted(l []api.SessionStep, step api.SessionStep) []api.SessionStep {
	index, _ := slices.BinarySearchFunc(l, step.Name, func(other api.SessionStep, name string) int {
		return cmp.Compare(other.Name, name)
	})
	return slices.Insert(l, index, step)
}

// refusalOf returns the error that a valid event has after these steps.
func (g graph) refusalOf(event api.SessionEvent) api.Errno {
	name := event.Step.Name
	step := g.steps[name]
	switch event.Kind {
	case api.SessionAdd:
		return firstError(
			when(g.isSource(name) || g.isStep(name), api.ErrExists),
			when(len(g.list) >= api.MaxSessionSteps, api.ErrFull),
			when(!g.areReady(event.Step.Inputs), api.ErrMissing))
	case api.SessionChange:
		return firstError(
			g.checkActiveName(name),
			checkRules(step.Kind, event.Step.Text))
	case api.SessionUndo:
		return firstError(
			g.checkActiveName(name),
			when(g.isUsed(name), api.ErrBusy))
	}
	return firstError(
		when(!g.isStep(name), api.ErrMissing),
		when(step.Active, api.ErrState),
		when(!g.areReady(step.Inputs), api.ErrGap))
}
