package session

import (
	"slices"

	"lacquer/api"
)

// update is the steps for which results are wanted, the names of those that are stale, and the results of the old steps.
type update struct {
	steps graph
	stale map[string]bool
	old   map[string]api.SessionResult
}

// Stale returns the names of the stale steps of an update (P8.5).
func Stale(s []api.SessionSource, x api.SessionUpdate) ([]string, api.Errno) {
	u, e := checkedUpdate(s, x)
	if e != api.OK {
		return nil, e
	}
	return u.steps.stepsThat(func(step api.SessionStep) bool { return u.stale[step.Name] }), api.OK
}

// Updated returns the results of the new steps, and how many of them had to be computed (P8.5).
func Updated(s []api.SessionSource, x api.SessionUpdate) ([]api.SessionResult, int, api.Errno) {
	u, e := checkedUpdate(s, x)
	if e != api.OK {
		return nil, 0, e
	}
	computed := 0
	results := map[string]api.SessionResult{}
	for _, name := range u.steps.order() {
		if u.stale[name] {
			results[name] = u.steps.rendered(name, results)
			computed++
		} else {
			kept := u.old[name]
			kept.Signal = slices.Clone(kept.Signal)
			results[name] = kept
		}
	}
	return u.steps.listed(results), computed, api.OK
}

func checkedUpdate(s []api.SessionSource, x api.SessionUpdate) (update, api.Errno) {
	old, _, e := checked(s, x.Old)
	if e = firstError(e, old.checkResults(x.Results)); e != api.OK {
		return update{}, e
	}
	steps, _, e := checked(s, x.New)
	if e != api.OK {
		return update{}, e
	}
	u := update{steps, map[string]bool{}, map[string]api.SessionResult{}}
	for _, result := range x.Results {
		u.old[result.Name] = result
	}
	for _, name := range steps.order() {
		u.stale[name] = u.isStale(steps.steps[name], old.steps[name])
	}
	return u, api.OK
}

// isStale tells whether a step is stale, if this is known of its inputs.
func (u update) isStale(step, before api.SessionStep) bool {
	_, hasResult := u.old[step.Name]
	return !before.Active || !hasResult || !sameRendering(step, before) ||
		slices.ContainsFunc(step.Inputs, func(name string) bool { return u.stale[name] })
}

// checkResults returns the error of results of these steps.
func (g graph) checkResults(l []api.SessionResult) api.Errno {
	if len(l) > api.MaxSessionSteps {
		return api.ErrLarge
	}
	var names []string
	for _, result := range l {
		names = append(names, result.Name)
	}
	_, e := checkItems(len(l), func(i int) api.Errno {
		return firstError(
			when(!g.steps[l[i].Name].Active, api.ErrMissing),
			checkSignal(l[i].Signal, api.ErrRange),
			when(l[i].Error != api.OK && len(l[i].Signal) > 0, api.ErrForm),
			checkOrder(names, i))
	})
	return e
}
