package session_test

import (
	"math/rand/v2"
	"slices"
	"strings"
	"testing"

	"lacquer/api"
	"lacquer/session"
)

// sameStep is the document's definition: all parts are equal, or there is no such step in both.
func sameStep(a, b []api.SessionStep, name string) bool {
	x, inA := stepOf(a, name)
	y, inB := stepOf(b, name)
	return inA == inB && shown(x) == shown(y)
}

func namesIn(l ...[]api.SessionStep) []string {
	var names []string
	for _, x := range l {
		for _, step := range x {
			names = append(names, step.Name)
		}
	}
	slices.Sort(names)
	return slices.Compact(names)
}

func differing(a, b []api.SessionStep) []string {
	var names []string
	for _, name := range namesIn(a, b) {
		if !sameStep(a, b, name) {
			names = append(names, name)
		}
	}
	return names
}

// merged is the document's definition.
func merged(x api.SessionBranches) ([]api.SessionStep, []string, api.Errno) {
	var l []api.SessionStep
	var conflicts []string
	for _, name := range namesIn(x.Base, x.A, x.B) {
		from := x.A
		switch {
		case sameStep(x.A, x.B, name), sameStep(x.B, x.Base, name):
		case sameStep(x.A, x.Base, name):
			from = x.B
		default:
			conflicts = append(conflicts, name)
		}
		if step, exists := stepOf(from, name); exists {
			l = append(l, step)
		}
	}
	if len(conflicts) > 0 {
		return nil, conflicts, api.ErrClash
	}
	if _, e := session.CheckSteps(example(), l); e != api.OK {
		return nil, nil, e
	}
	return l, nil, api.OK
}

// P8.6
func TestDifferences(t *testing.T) {
	both := steps(loud, part)
	for _, v := range []struct {
		a, b []api.SessionStep
		want []string
	}{
		{nil, nil, nil}, {both, both, nil}, {both, nil, []string{"loud", "part"}}, {nil, both, []string{"loud", "part"}}, {both, steps(loud), []string{"part"}},
		{both, steps("+loud:gain:a:bob:0:3/2", part), []string{"loud"}}, {both, steps("+loud:gain:a:ann:1:3/2", part), []string{"loud"}}, {both, steps("+loud:gain:a:ann:0:6/4", part), []string{"loud"}}, {both, steps("+loud:gain:b:ann:0:3/2", part), []string{"loud"}}, {both, steps("+loud:cut:a:ann:0:1 2", part), []string{"loud"}},
		{both, steps(loud, "-part:cut:loud:ann:2:1 2"), []string{"part"}}, {both, steps("+k:gain:a:ann:0:1/1", loud, "+z:gain:a:ann:0:1/1"), []string{"k", "part", "z"}},
		{steps("+k:join:a,b:ann:0:1,0 0 0"), steps("+k:join:b,a:ann:0:1,0 0 0"), []string{"k"}}, {steps("+k:join:a,b:ann:0:1,0 0 0"), steps("+k:join:a:ann:0:1,0 0 0"), []string{"k"}}, {steps("+k:join:a:ann:0:1,0 0 0"), steps("+k:edit:a:ann:0:gain 0 0 0 0 1"), []string{"k"}},
	} {
		expect(t, v, shown(session.Differences(example(), v.a, v.b)), shown(v.want, api.OK))
		expect(t, v, shown(session.Differences(example(), v.b, v.a)), shown(v.want, api.OK))
	}
	d := dice(11)
	for range 400 {
		a := someSteps(d)
		b := after(d, a, fewNames(), d.IntN(9))
		expect(t, a, shown(session.Differences(example(), a, b)), shown(differing(a, b), api.OK))
		b = someSteps(d)
		expect(t, a, shown(session.Differences(example(), a, b)), shown(differing(a, b), api.OK))
	}
}

// P8.6, P8.11, example 4, and the edge cases
func TestMerged(t *testing.T) {
	base := steps(loud, part)
	first := steps("+loud:gain:a:ann:0:1/1", part)
	undone := steps("-loud:gain:a:ann:0:3/2", "-part:cut:loud:ann:2:1 2")
	long := named(16)
	for _, v := range []struct {
		base, a, b []api.SessionStep
		want       []api.SessionStep
		conflicts  []string
		e          api.Errno
	}{
		{nil, nil, nil, nil, nil, api.OK}, {base, base, base, base, nil, api.OK}, {base, nil, nil, nil, nil, api.OK}, {nil, base, base, base, nil, api.OK}, {base, first, first, first, nil, api.OK},
		{base, first, steps(loud, "+part:cut:loud:ann:2:0 0"), steps("+loud:gain:a:ann:0:1/1", "+part:cut:loud:ann:2:0 0"), nil, api.OK},
		{base, first, steps("+loud:gain:a:ann:0:2/1", part), nil, []string{"loud"}, api.ErrClash},
		{base, first, steps("+loud:gain:a:ann:1:1/1", part), nil, []string{"loud"}, api.ErrClash}, {base, first, steps("+loud:gain:a:bob:0:1/1", part), nil, []string{"loud"}, api.ErrClash},
		{base, first, undone, nil, []string{"loud"}, api.ErrClash}, {base, first, nil, nil, []string{"loud"}, api.ErrClash},
		{base, steps("+loud:gain:a:ann:0:1/1", "+part:cut:loud:ann:2:0 1"), steps("+loud:gain:a:ann:0:2/1", "+part:cut:loud:ann:2:0 0"), nil, []string{"loud", "part"}, api.ErrClash},
		{nil, steps("+k:gain:a:ann:0:1/1"), steps("+k:gain:a:ann:0:2/1"), nil, []string{"k"}, api.ErrClash}, {nil, steps("+k:gain:a:ann:0:1/1"), steps("+J:gain:a:ann:0:2/1"), steps("+J:gain:a:ann:0:2/1", "+k:gain:a:ann:0:1/1"), nil, api.OK},
		{base, undone, steps(loud, "-part:cut:loud:ann:2:1 2"), undone, nil, api.OK},
		// The merged steps are not valid.
		{base, undone, steps("+k:cut:loud:ann:0:0 0", loud, "-part:cut:loud:ann:2:1 2"), nil, nil, api.ErrGap},
		{steps(loud), nil, steps(loud, part), nil, nil, api.ErrMissing},
		{long[:8], long[:16], append(slices.Clone(long[:8]), step("+z:gain:a:ann:0:1/1")), nil, nil, api.ErrLarge},
		{steps("-k:gain:a:ann:0:1/1", "-l:gain:a:ann:0:1/1"), steps("-k:gain:l:ann:0:1/1", "-l:gain:a:ann:0:1/1"), steps("-k:gain:a:ann:0:1/1", "-l:gain:k:ann:0:1/1"), nil, nil, api.ErrClash},
		// A conflict comes before the errors of the merged steps.
		{long[:8], append(slices.Clone(long[:15]), step("+z:gain:a:ann:0:1/1")), append(slices.Clone(long[:8]), step("+y:gain:a:ann:0:1/1"), step("+z:gain:b:ann:0:1/1")), nil, []string{"z"}, api.ErrClash},
	} {
		for _, x := range []api.SessionBranches{{Base: v.base, A: v.a, B: v.b}, {Base: v.base, A: v.b, B: v.a}} {
			expect(t, x, shown(session.Merged(example(), x)), shown(v.want, v.conflicts, v.e))
		}
	}
}

func someBranches(d *rand.Rand) api.SessionBranches {
	base := someSteps(d)
	return api.SessionBranches{Base: base, A: after(d, base, fewNames(), d.IntN(12)), B: after(d, base, fewNames(), d.IntN(12))}
}

// P8.6, P8.11: branches are compared with the definition
func TestMergedIsTheDefinition(t *testing.T) {
	d := dice(12)
	counts := map[api.Errno]int{}
	for range 1500 {
		x := someBranches(d)
		if d.IntN(3) == 0 {
			x.Base = someSteps(d)
		}
		l, conflicts, e := merged(x)
		counts[e]++
		want := shown(l, conflicts, e)
		expect(t, x, shown(session.Merged(example(), x)), want)
		expect(t, x, shown(session.Merged(example(), api.SessionBranches{Base: x.Base, A: x.B, B: x.A})), want)
		expect(t, x, shown(session.Merged(example(), api.SessionBranches{Base: x.Base, A: x.A, B: x.Base})), shown(x.A, []string{}, api.OK))
	}
	for _, e := range []api.Errno{api.OK, api.ErrClash, api.ErrGap} {
		if counts[e] < 5 {
			t.Error("the examples are one-sided:", counts)
		}
	}
}

// P8.6: the errors of the arguments, in their order
func TestErrorsOfBranches(t *testing.T) {
	wrong := steps(part, loud)
	expectError := func(s []api.SessionSource, x api.SessionBranches, e api.Errno) {
		t.Helper()
		expect(t, x, shown(session.Merged(s, x)), shown([]api.SessionStep{}, []string{}, e))
		expect(t, x, shown(session.Differences(s, append(x.Base, x.A...), x.B)), shown([]string{}, e))
		expect(t, x, shown(session.Explained(s, api.SessionDifference{Before: append(x.Base, x.A...), After: x.B, Name: "nothing"})), shown([]string{}, e))
	}
	for _, x := range sourcesWithErrors() {
		expectError(x.l, api.SessionBranches{Base: wrong, A: wrong, B: wrong}, x.e)
		expectError(x.l, api.SessionBranches{Base: nil, A: nil, B: nil}, x.e)
	}
	for _, x := range stepsWithErrors() {
		expectError(example(), api.SessionBranches{Base: x.l}, x.e)
		expectError(example(), api.SessionBranches{A: x.l}, x.e)
		expectError(example(), api.SessionBranches{B: x.l}, x.e)
		expectError(example(), api.SessionBranches{A: x.l, B: make([]api.SessionStep, 17)}, x.e)
	}
	expectError(example(), api.SessionBranches{Base: wrong, B: named(17)}, api.ErrOrder)
	expectError(example(), api.SessionBranches{Base: named(17), B: wrong}, api.ErrLarge)
	expect(t, "base first", shown(session.Merged(example(), api.SessionBranches{Base: wrong, A: named(17), B: named(17)})), shown([]api.SessionStep{}, []string{}, api.ErrOrder))
	expect(t, "a second", shown(session.Merged(example(), api.SessionBranches{A: wrong, B: named(17)})), shown([]api.SessionStep{}, []string{}, api.ErrOrder))
}

// taken returns steps before a difference with those of a set as they are after it.
func taken(x api.SessionDifference, set []string) []api.SessionStep {
	var l []api.SessionStep
	for _, name := range namesIn(x.Before, x.After) {
		from := x.Before
		if slices.Contains(set, name) {
			from = x.After
		}
		if step, exists := stepOf(from, name); exists {
			l = append(l, step)
		}
	}
	return l
}

// explains is the document's definition.
func explains(x api.SessionDifference, set []string) bool {
	l := taken(x, set)
	step, _ := stepOf(l, x.Name)
	if _, e := session.CheckSteps(example(), l); e != api.OK || !step.Active {
		return false
	}
	return shown(resultOf(example(), l, x.Name, nil)) == shown(resultOf(example(), x.After, x.Name, nil))
}

// explained is the document's definition: all sets are compared.
func explained(x api.SessionDifference) []string {
	names := differing(x.Before, x.After)
	best, found := []string{}, false
	for bits := range 1 << len(names) {
		set := []string{}
		for i, name := range names {
			if bits>>i&1 == 1 {
				set = append(set, name)
			}
		}
		isBetter := !found || len(set) < len(best) || len(set) == len(best) && slices.Compare(set, best) < 0
		if isBetter && explains(x, set) {
			best, found = set, true
		}
	}
	return best
}

// P8.6, example 5
func TestExplained(t *testing.T) {
	before := steps(loud, part)
	both := steps("+loud:gain:a:ann:0:1/1", "+part:cut:loud:ann:2:0 0")
	for _, v := range []struct {
		x    api.SessionDifference
		want []string
		e    api.Errno
	}{
		{api.SessionDifference{Before: before, After: both, Name: "part"}, []string{"loud", "part"}, api.OK},
		{api.SessionDifference{Before: before, After: both, Name: "loud"}, []string{"loud"}, api.OK},
		{api.SessionDifference{Before: before, After: before, Name: "part"}, nil, api.OK},
		{api.SessionDifference{Before: nil, After: before, Name: "part"}, []string{"loud", "part"}, api.OK},
		{api.SessionDifference{Before: nil, After: before, Name: "loud"}, []string{"loud"}, api.OK},
		{api.SessionDifference{Before: before, After: steps("+loud:gain:a:bob:3:6/4", part), Name: "part"}, nil, api.OK},
		{api.SessionDifference{Before: steps(loud, "-part:cut:loud:ann:2:1 2"), After: before, Name: "part"}, []string{"part"}, api.OK},
		{api.SessionDifference{Before: steps("-loud:gain:a:ann:0:3/2", "-part:cut:loud:ann:2:1 2"), After: before, Name: "part"}, []string{"loud", "part"}, api.OK},
		// Of several sets of the same size the lexicographically first one: 4 times 1 is 2 times 2.
		{api.SessionDifference{Before: steps("+k:gain:b:ann:0:1/1", "+l:gain:k:ann:0:1/1", "+m:gain:l:ann:0:1/1", "+n:gain:m:ann:0:1/1"), After: steps("+k:gain:b:ann:0:2/1", "+l:gain:k:ann:0:4/1", "+m:gain:l:ann:0:2/1", "+n:gain:m:ann:0:1/4"), Name: "n"}, []string{"l"}, api.OK},
		{api.SessionDifference{Before: steps("+k:gain:b:ann:0:1/1", "+l:gain:k:ann:0:1/1", "+m:gain:l:ann:0:1/1", "+n:gain:m:ann:0:1/1"), After: steps("+k:gain:b:ann:0:2/1", "+l:gain:k:ann:0:2/1", "+m:gain:l:ann:0:2/1", "+n:gain:m:ann:0:1/2"), Name: "n"}, []string{"k", "l"}, api.OK},
		// Also an error may be explained.
		{api.SessionDifference{Before: before, After: steps("+loud:gain:a:ann:0:1000/1", "+part:cut:loud:ann:2:0 0"), Name: "part"}, []string{"loud"}, api.OK},
		{api.SessionDifference{Before: before, After: steps("+loud:gain:a:ann:0:1/1", "+part:cut:loud:ann:2:0 9"), Name: "part"}, []string{"part"}, api.OK},
		// What is removed, too: without it there is no room.
		{api.SessionDifference{Before: append(named(15), step("-t:gain:a:ann:0:1/1")), After: append(named(15), step("+u:gain:a:ann:0:1/1")), Name: "u"}, []string{"t", "u"}, api.OK},
		// The errors of the name.
		{api.SessionDifference{Before: before, After: both, Name: "a"}, nil, api.ErrMissing}, {api.SessionDifference{Before: before, After: both, Name: ""}, nil, api.ErrMissing}, {api.SessionDifference{Before: before, After: nil, Name: "part"}, nil, api.ErrMissing}, {api.SessionDifference{Before: before, After: steps(loud, "-part:cut:loud:ann:2:1 2"), Name: "part"}, nil, api.ErrState},
		{api.SessionDifference{Before: nil, After: named(9), Name: "nothing"}, nil, api.ErrMissing}, {api.SessionDifference{Before: named(9), After: steps("-k:gain:a:ann:0:1/1"), Name: "k"}, nil, api.ErrState},
		{api.SessionDifference{Before: nil, After: named(9), Name: "s0000"}, nil, api.ErrLarge}, {api.SessionDifference{Before: named(8), After: steps(loud), Name: "loud"}, nil, api.ErrLarge}, {api.SessionDifference{Before: named(16), After: append(named(7), step("+z:gain:a:ann:0:1/1")), Name: "z"}, nil, api.ErrLarge},
		{api.SessionDifference{Before: nil, After: named(8), Name: "s0003"}, []string{"s0003"}, api.OK}, {api.SessionDifference{Before: named(7), After: steps(loud), Name: "loud"}, []string{"loud"}, api.OK},
	} {
		expect(t, v, shown(session.Explained(example(), v.x)), shown(v.want, v.e))
	}
}

// P8.6: a step that is not active does not have the same result as one whose signal is empty
func TestExplainedOfSilence(t *testing.T) {
	s := sources(source("a", 1, 2), source("e"))
	x := api.SessionDifference{Before: steps("-k:gain:e:ann:0:1/1", "+l:gain:a:ann:0:1/1"), After: steps("+k:gain:e:ann:0:1/1", "+l:gain:a:ann:0:2/1"), Name: "k"}
	expect(t, x, shown(session.Explained(s, x)), shown([]string{"k"}, api.OK))
	x.Before = x.Before[1:]
	expect(t, x, shown(session.Explained(s, x)), shown([]string{"k"}, api.OK))
	// An empty signal is not the same as an error.
	x.Before = steps("+k:cut:e:ann:0:0 0", "+l:gain:a:ann:0:1/1")
	expect(t, x, shown(session.Explained(s, x)), shown([]string{"k"}, api.OK))
}

// P8.6, P8.12: sets are compared with all sets
func TestExplainedIsTheDefinition(t *testing.T) {
	d := dice(13)
	counts := map[int]int{}
	for range 1500 {
		x := api.SessionDifference{Before: someSteps(d)}
		x.After = after(d, x.Before, fewNames(), between(d, 0, 14))
		if d.IntN(3) == 0 {
			x.After = someSteps(d)
		}
		for _, step := range x.After {
			if !step.Active {
				continue
			}
			x.Name = step.Name
			set, e := session.Explained(example(), x)
			expect(t, x, shown(set, e), shown(explained(x), api.OK))
			counts[len(set)]++
			for i := range set {
				if explains(x, slices.Delete(slices.Clone(set), i, i+1)) {
					t.Errorf("%s: %s of %s is not needed", brief(x), set[i], strings.Join(set, " "))
				}
			}
		}
	}
	for size := range 4 {
		if counts[size] < 10 {
			t.Error("the examples are one-sided:", counts)
		}
	}
}
