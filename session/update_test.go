package session_test

import (
	"math"
	"math/rand/v2"
	"slices"
	"testing"

	"lacquer/api"
	"lacquer/session"
)

// P8.5, P8.10, example 3
func TestUpdateOfTheExample(t *testing.T) {
	old := steps(loud, part)
	before := results(result("loud", api.OK, 15, 30, 45, 60), result("part", api.OK, 30, 45))
	quiet := "+loud:gain:a:ann:0:1/4"
	for _, v := range []struct {
		x       api.SessionUpdate
		stale   []string
		results []api.SessionResult
	}{
		{api.SessionUpdate{Old: old, Results: before, New: steps(quiet, part)}, []string{"loud", "part"}, results(result("loud", api.OK, 3, 5, 8, 10), result("part", api.OK, 5, 8))},
		{api.SessionUpdate{Old: old, Results: before, New: steps(loud, "+part:cut:loud:ann:2:0 1")}, []string{"part"}, results(before[0], result("part", api.OK, 15, 30))},
		{api.SessionUpdate{Old: old, Results: before, New: old}, nil, before},
		{api.SessionUpdate{Old: old, Results: before, New: steps("+loud:gain:a:bob:3:3/2", "+part:cut:loud:cleo:1:1 2")}, nil, before},
		{api.SessionUpdate{Old: old, Results: before, New: nil}, nil, nil},
		{api.SessionUpdate{New: old}, []string{"loud", "part"}, before},
		{api.SessionUpdate{Old: old, New: old}, []string{"loud", "part"}, before},
		{api.SessionUpdate{Old: old, Results: before[:1], New: old}, []string{"part"}, before},
		{api.SessionUpdate{Old: old, Results: before[1:], New: old}, []string{"loud", "part"}, before},
		{api.SessionUpdate{Old: steps(loud, "-part:cut:loud:ann:2:1 2"), Results: before[:1], New: old}, []string{"part"}, before},
		{api.SessionUpdate{Old: old, Results: before, New: steps(loud, "-part:cut:loud:ann:2:0 0")}, nil, before[:1]},
		// Kind, inputs or text differ.
		{api.SessionUpdate{Old: old, Results: before, New: steps(loud, "+part:join:loud:ann:2:2,0 0 1")}, []string{"part"}, before},
		{api.SessionUpdate{Old: old, Results: before, New: steps(loud, "+part:cut:a:ann:2:1 2")}, []string{"part"}, results(before[0], result("part", api.OK, 20, 30))},
		{api.SessionUpdate{Old: steps("+k:join:a,b:ann:0:1,0 0 0"), Results: results(result("k", api.OK, 10)), New: steps("+k:join:b,a:ann:0:1,0 0 0")}, []string{"k"}, results(result("k", api.OK, 1))},
		// Results are taken as they are, and those of stale steps computed from them.
		{api.SessionUpdate{Old: old, Results: results(result("loud", api.OK, 7, 8, 9), result("part", api.ErrLate)), New: old}, nil, results(result("loud", api.OK, 7, 8, 9), result("part", api.ErrLate))},
		{api.SessionUpdate{Old: old, Results: results(result("loud", api.OK, 7, 8, 9)), New: old}, []string{"part"}, results(result("loud", api.OK, 7, 8, 9), result("part", api.OK, 8, 9))},
		{api.SessionUpdate{Old: old, Results: results(result("loud", -5)), New: old}, []string{"part"}, results(result("loud", -5), result("part", -5))},
		// A step that is stale makes what uses it stale, also where it has a smaller name.
		{api.SessionUpdate{Old: steps("+J:gain:k:ann:0:1/1", "+k:gain:l:ann:0:1/1", "+l:gain:b:ann:0:1/1"), Results: results(result("J", api.OK, 7), result("k", api.OK, 8), result("l", api.OK, 9)), New: steps("+J:gain:k:ann:0:1/1", "+k:gain:l:ann:0:1/1", "+l:gain:b:ann:0:-1/1")}, []string{"J", "k", "l"}, results(result("J", api.OK, -1, -2, -3), result("k", api.OK, -1, -2, -3), result("l", api.OK, -1, -2, -3))},
	} {
		expect(t, v, shown(session.Stale(example(), v.x)), shown(v.stale, api.OK))
		expect(t, v, shown(session.Updated(example(), v.x)), shown(v.results, len(v.stale), api.OK))
	}
}

// isStale is the document's definition.
func isStale(x api.SessionUpdate, name string) bool {
	now, exists := stepOf(x.New, name)
	before, _ := stepOf(x.Old, name)
	hasResult := slices.ContainsFunc(x.Results, func(r api.SessionResult) bool { return r.Name == name })
	if !exists || !now.Active {
		return false
	}
	if !before.Active || !hasResult || now.Kind != before.Kind || !slices.Equal(now.Inputs, before.Inputs) || now.Text != before.Text {
		return true
	}
	return slices.ContainsFunc(now.Inputs, func(input string) bool { return isStale(x, input) })
}

// someUpdate returns an update with some of the results of the old steps.
func someUpdate(d *rand.Rand) api.SessionUpdate {
	x := api.SessionUpdate{Old: someSteps(d)}
	x.New = after(d, x.Old, fewNames(), between(d, 0, 12))
	for _, r := range allResults(example(), x.Old) {
		if d.IntN(6) > 0 {
			x.Results = append(x.Results, r)
		}
	}
	if len(x.Results) > 0 && d.IntN(3) == 0 {
		x.Results[d.IntN(len(x.Results))].Signal = nil
	}
	return x
}

// P8.5: updates are compared with the definition
func TestUpdates(t *testing.T) {
	d := dice(9)
	for range 600 {
		x := someUpdate(d)
		kept := map[string]api.SessionResult{}
		stale := wantNames(x.New, func(now api.SessionStep) bool { return isStale(x, now.Name) })
		for _, r := range x.Results {
			if !slices.Contains(stale, r.Name) {
				kept[r.Name] = r
			}
		}
		var want []api.SessionResult
		for _, now := range x.New {
			if now.Active {
				want = append(want, resultOf(example(), x.New, now.Name, kept))
			}
		}
		expect(t, x, shown(session.Stale(example(), x)), shown(stale, api.OK))
		expect(t, x, shown(session.Updated(example(), x)), shown(want, len(stale), api.OK))
	}
}

// P8.10
func TestUpdatesGiveTheSameResults(t *testing.T) {
	d := dice(10)
	for range 400 {
		x := someUpdate(d)
		x.Results, _ = session.RenderAll(example(), x.Old)
		want, e := session.RenderAll(example(), x.New)
		got, computed, err := session.Updated(example(), x)
		expect(t, x, shown(got, err), shown(want, e))
		x.New = x.Old
		got, computed, err = session.Updated(example(), x)
		expect(t, x, shown(got, computed, err), shown(x.Results, 0, api.OK))
	}
}

// badResults is results of the steps loud, k, part (not active) and z with their error.
type badResults struct {
	l []api.SessionResult
	e api.Errno
}

func resultsWithErrors() ([]api.SessionStep, []badResults) {
	old := steps("+k:gain:loud:ann:0:1/1", loud, "-part:cut:loud:ann:2:1 2", "+z:gain:a:ann:0:1/1")
	l := []badResults{
		{make([]api.SessionResult, 17), api.ErrLarge}, {make([]api.SessionResult, 1000), api.ErrLarge},
		{results(result("part", api.OK)), api.ErrMissing}, {results(result("a", api.OK, 1)), api.ErrMissing}, {results(result("", api.OK)), api.ErrMissing}, {results(result("y", api.OK)), api.ErrMissing}, {results(result("k", api.OK), result("loud", api.OK), result("part", api.ErrBreak)), api.ErrMissing},
		{results(result("z", api.OK), result("k", api.OK)), api.ErrOrder}, {results(result("loud", api.OK), result("loud", api.OK)), api.ErrOrder}, {results(result("k", api.OK, 1), result("z", api.OK, 2), result("loud", api.OK)), api.ErrOrder},
		// Of several errors the first one.
		{results(result("z", api.OK), result("part", api.OK, maxSample+1)), api.ErrMissing}, {results(result("z", api.OK), result("k", api.ErrLate, maxSample+1)), api.ErrRange}, {results(result("z", api.OK), result("k", api.ErrLate, make([]int, 257)...)), api.ErrLarge}, {results(result("z", api.OK), result("k", api.ErrLate, 0)), api.ErrForm}, {results(result("z", api.OK), result("k", api.OK), result("y", api.OK)), api.ErrOrder},
	}
	for _, e := range []api.Errno{api.ErrNil, api.ErrLost, -1, 1000, math.MinInt, math.MaxInt} {
		l = append(l, badResults{results(result("k", e, 0)), api.ErrForm}, badResults{results(result("k", e), result("z", e, 1, 2)), api.ErrForm})
	}
	for _, x := range badSignals(api.ErrRange) {
		l = append(l, badResults{results(result("k", api.OK, x.Signal...)), x.Error}, badResults{results(result("k", api.OK), result("loud", api.ErrGap), result("z", 7, x.Signal...)), x.Error})
	}
	return old, l
}

// P8.5: the errors of the arguments, in their order
func TestErrorsOfUpdates(t *testing.T) {
	expectError := func(s []api.SessionSource, x api.SessionUpdate, e api.Errno) {
		t.Helper()
		expect(t, x, shown(session.Stale(s, x)), shown([]string{}, e))
		expect(t, x, shown(session.Updated(s, x)), shown([]api.SessionResult{}, 0, e))
	}
	for _, x := range sourcesWithErrors() {
		expectError(x.l, api.SessionUpdate{}, x.e)
		expectError(x.l, api.SessionUpdate{Old: steps(part, loud), Results: make([]api.SessionResult, 17), New: steps(part, loud)}, x.e)
	}
	for _, x := range stepsWithErrors() {
		expectError(example(), api.SessionUpdate{Old: x.l}, x.e)
		expectError(example(), api.SessionUpdate{New: x.l}, x.e)
		expectError(example(), api.SessionUpdate{Old: x.l, Results: make([]api.SessionResult, 17), New: steps(part, loud)}, x.e)
	}
	old, l := resultsWithErrors()
	for _, x := range l {
		expectError(example(), api.SessionUpdate{Old: old, Results: x.l, New: old}, x.e)
		expectError(example(), api.SessionUpdate{Old: old, Results: x.l, New: make([]api.SessionStep, 17)}, x.e)
	}
	full := make([]api.SessionResult, 16)
	for i, x := range named(16) {
		full[i] = result(x.Name, api.OK, signal(256, i, -maxSample)...)
	}
	expect(t, "full", shown(session.Updated(example(), api.SessionUpdate{Old: named(16), Results: full, New: named(16)})), shown(full, 0, api.OK))
}
