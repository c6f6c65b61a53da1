package session

import (
	"iter"
	"maps"
	"slices"

	"lacquer/api"
)

// Explained returns the fewest changed steps that change the result of a step as all of them do (P8.6).
func Explained(s []api.SessionSource, x api.SessionDifference) ([]string, api.Errno) {
	before, after, e := checkedBoth(s, x.Before, x.After)
	if e = firstError(e, after.checkActiveName(x.Name)); e != api.OK {
		return nil, e
	}
	changed := differing(before, after)
	if len(changed) > api.MaxSessionChanges {
		return nil, api.ErrLarge
	}
	wanted := after.resultOf(x.Name)
	for set := range setsOf(changed) {
		g, _, e := checked(s, withChanges(before, after, set))
		if e == api.OK && g.steps[x.Name].Active && sameResults(g.resultOf(x.Name), wanted) {
			return set, api.OK
		}
	}
	// All changes together give the steps after them, so that this is not reached.
	return nil, api.ErrNone
}

func sameResults(a, b api.SessionResult) bool {
	return a.Error == b.Error && slices.Equal(a.Signal, b.Signal)
}

// withChanges returns the steps before a difference, but those of a set as they are after it.
func withChanges(before, after graph, set []string) []api.SessionStep {
	mixed := maps.Clone(before.steps)
	for _, name := range set {
		if step, exists := after.steps[name]; exists {
			mixed[name] = step
		} else {
			delete(mixed, name)
		}
	}
	var l []api.SessionStep
	for _, name := range slices.Sorted(maps.Keys(mixed)) {
		l = append(l, mixed[name])
	}
	return l
}

// setsOf yields all sets of names: smaller ones first, and those of the same size in lexicographic order.
func setsOf(names []string) iter.Seq[[]string] {
	return func(yield func([]string) bool) {
		for count := range len(names) + 1 {
			for set := range setsWith(nil, names, count) {
				if !yield(set) {
					return
				}
			}
		}
	}
}

// setsWith yields all sets that consist of the names of first and count other ones, in lexicographic order.
func setsWith(first, names []string, count int) iter.Seq[[]string] {
	return func(yield func([]string) bool) {
		if count == 0 {
			yield(first)
			return
		}
		for i, name := range names {
			larger := append(slices.Clone(first), name)
			for set := range setsWith(larger, names[i+1:], count-1) {
				if !yield(set) {
					return
				}
			}
		}
	}
}
