package session_test

import (
	"fmt"
	"slices"
	"testing"

	"lacquer/api"
	"lacquer/session"
)

// unchanged makes a call twice, spoils its first result in between, and expects that neither the arguments nor the second result differ (R3, R4).
func unchanged[T any](t *testing.T, what string, arguments any, call func() (T, api.Errno), spoil func(T)) {
	t.Helper()
	before := shown(arguments)
	first, e := call()
	want := shown(first, e)
	if e != api.OK {
		t.Error(what, e)
	}
	spoil(first)
	expect(t, what, shown(call()), want)
	expect(t, what, shown(arguments), before)
}

// spoilList overwrites a list, and the room behind it, which belongs to it, too.
func spoilList[T any](other T) func([]T) {
	return func(l []T) {
		for i := range l {
			l[i] = other
		}
		_ = append(l, other)
	}
}

// spoilSteps overwrites steps one by one, and expects that those after it do not change with them.
func spoilSteps(t *testing.T) func([]api.SessionStep) {
	return func(l []api.SessionStep) {
		for i := range l {
			rest := shown(l[i+1:])
			spoilList("other")(l[i].Inputs)
			expect(t, "inputs share memory", shown(l[i+1:]), rest)
		}
		spoilList(step("+x:gain:y:z:3:1/1"))(l)
	}
}

// spoilResults does the same for results.
func spoilResults(t *testing.T) func([]api.SessionResult) {
	return func(l []api.SessionResult) {
		for i := range l {
			rest := shown(l[i+1:])
			spoilList(-1)(l[i].Signal)
			expect(t, "signals share memory", shown(l[i+1:]), rest)
		}
		spoilList(result("other", api.ErrLate, 7))(l)
	}
}

// withRoom returns sources and steps whose slices have room behind them that belongs to others, and these others.
func withRoom() ([]api.SessionSource, []api.SessionStep, []any) {
	numbers := []int{10, 20, 30, 40, 1, 2, 3, 4}
	names := []string{"a", "k", "b", "loud", "other"}
	s := sources(source("a", numbers[:4]...), source("b", numbers[4:7]...), source("other", numbers...))
	l := steps("+cut:cut:k:ann:0:0 3", "+flat:gain:a:ann:1:1/1", "+k:join:a:ann:0:4,0 0 0", loud, part, "+q:edit:a:bob:1:gain 0 0 0 0 8", "+r:resample:a:bob:1:ratio 1 1 1", "+s:mend:a:bob:1:median 1 9999 2 3 50", "-u:gain:k:ann:0:1/1", "+other:gain:a:ann:0:1/1")
	l[2].Inputs, l[3].Inputs, l[4].Inputs = names[:1], names[2:3], names[3:4]
	l[4].Text = "0 1"
	return s[:2], l[:9], []any{numbers, names, s, l}
}

// R3, R4
func TestStepsAreNotShared(t *testing.T) {
	s, l, all := withRoom()
	names := func(what string, call func() ([]string, api.Errno)) {
		t.Helper()
		unchanged(t, what, all, call, spoilList("other"))
	}
	names("needed", func() ([]string, api.Errno) { return session.NeededBy(s, l, "part") })
	names("users", func() ([]string, api.Errno) { return session.UsersOf(s, l, "a") })
	names("order", func() ([]string, api.Errno) { return session.OrderOf(s, l) })
	names("plan", func() ([]string, api.Errno) { return session.UndoPlan(s, l, "k") })
	names("doubt", func() ([]string, api.Errno) {
		_, x, e := session.DoubtOf(s, l, "part")
		return x, e
	})
	unchanged(t, "essence", all, func() ([]api.SessionStep, api.Errno) { return session.Essence(s, l) }, spoilSteps(t))
	unchanged(t, "possible", all, func() ([]api.SessionEvent, api.Errno) { return session.Possible(s, l) }, spoilList(event("undo other")))
	unchanged(t, "check", all, func() (int, api.Errno) { return session.CheckSteps(s, l) }, func(int) {})
	inputs := []string{"a", "b", "other"}
	for _, v := range []string{"add +g:join:x:ann:0:1,0 0 0", "change loud:bob:1:1/4", "undo part", "redo u"} {
		x := event(v)
		if x.Kind == api.SessionAdd {
			x.Step.Inputs = inputs[:2]
		}
		unchanged(t, v, append(all, inputs), func() ([]api.SessionStep, api.Errno) { return session.Apply(s, l, x) }, spoilSteps(t))
	}
	log := events("add +g:join:x:ann:0:1,0 0 0", "add "+loud, "add "+part, "undo part", "redo part")
	log[0].Step.Inputs = inputs[:2]
	unchanged(t, "replay", []any{all, inputs, log}, func() ([]api.SessionStep, api.Errno) {
		x, _, e := session.Replay(s, log[:4])
		return x, e
	}, spoilSteps(t))
}

// R3, R4
func TestResultsAreNotShared(t *testing.T) {
	s, l, all := withRoom()
	for _, x := range l[:8] {
		unchanged(t, x.Name, all, func() ([]int, api.Errno) { return session.Render(s, l, x.Name) }, spoilList(-1))
	}
	unchanged(t, "all", all, func() ([]api.SessionResult, api.Errno) { return session.RenderAll(s, l) }, spoilResults(t))
	old, e := session.RenderAll(s, l)
	if e != api.OK {
		t.Fatal(e)
	}
	numbers := []int{1, 2, 3, 4, 5}
	old[0].Signal, old[1].Signal = numbers[:2], numbers[1:3]
	changed, e := session.Apply(s, l, event("change k:ann:0:2,0 0 0"))
	if e != api.OK {
		t.Fatal(e)
	}
	x := api.SessionUpdate{Old: l, Results: old[:7], New: changed}
	arguments := []any{all, numbers, old, changed}
	unchanged(t, "stale", arguments, func() ([]string, api.Errno) { return session.Stale(s, x) }, spoilList("other"))
	unchanged(t, "updated", arguments, func() ([]api.SessionResult, api.Errno) {
		y, _, e := session.Updated(s, x)
		return y, e
	}, spoilResults(t))
}

// R3, R4
func TestBranchesAreNotShared(t *testing.T) {
	s, l, all := withRoom()
	first, e := session.Apply(s, l, event("change loud:bob:1:1/4"))
	second, err := session.Apply(s, l, event("change k:bob:1:3,0 0 0"))
	if e != api.OK || err != api.OK {
		t.Fatal(e, err)
	}
	arguments := []any{all, first, second}
	unchanged(t, "merged", arguments, func() ([]api.SessionStep, api.Errno) {
		x, _, e := session.Merged(s, api.SessionBranches{Base: l, A: first, B: second})
		return x, e
	}, spoilSteps(t))
	unchanged(t, "differences", arguments, func() ([]string, api.Errno) { return session.Differences(s, first, second) }, spoilList("other"))
	unchanged(t, "explained", arguments, func() ([]string, api.Errno) {
		return session.Explained(s, api.SessionDifference{Before: l, After: first, Name: "part"})
	}, spoilList("other"))
	text := "+k:join:a,b,a:ann:0:1,0 0 0"
	unchanged(t, "parsed", text, func() (api.SessionStep, api.Errno) { return session.ParseStep(text) }, func(x api.SessionStep) { spoilList("other")(x.Inputs) })
	unchanged(t, "parsed", text, func() (api.SessionEvent, api.Errno) { return session.ParseEvent("add " + text) }, func(x api.SessionEvent) { spoilList("other")(x.Step.Inputs) })
}

// R5
func TestNilAndEmptyAreEqual(t *testing.T) {
	noNames, noSteps, noResults := []string{}, []api.SessionStep{}, []api.SessionResult{}
	for _, s := range [][]api.SessionSource{nil, {}} {
		expect(t, s, shown(session.CheckSources(s)), shown(0, api.OK))
		for _, l := range [][]api.SessionStep{nil, {}} {
			expect(t, s, shown(session.CheckSteps(s, l)), shown(0, api.OK))
			expect(t, s, shown(session.OrderOf(s, l)), shown(noNames, api.OK))
			expect(t, s, shown(session.Essence(s, l)), shown(noSteps, api.OK))
			expect(t, s, shown(session.RenderAll(s, l)), shown(noResults, api.OK))
			expect(t, s, shown(session.Possible(s, l)), shown([]api.SessionEvent{}, api.OK))
			expect(t, s, shown(session.Replay(s, nil)), shown(noSteps, 0, api.OK))
			expect(t, s, shown(session.Replay(s, []api.SessionEvent{})), shown(noSteps, 0, api.OK))
			for _, r := range [][]api.SessionResult{nil, {}} {
				expect(t, s, shown(session.Stale(s, api.SessionUpdate{Old: l, Results: r, New: l})), shown(noNames, api.OK))
				expect(t, s, shown(session.Updated(s, api.SessionUpdate{Old: l, Results: r, New: l})), shown(noResults, 0, api.OK))
			}
			expect(t, s, shown(session.Differences(s, l, l)), shown(noNames, api.OK))
			expect(t, s, shown(session.Differences(s, l, nil)), shown(noNames, api.OK))
			expect(t, s, shown(session.Merged(s, api.SessionBranches{Base: l, B: l})), shown(noSteps, noNames, api.OK))
			expect(t, s, shown(session.Explained(s, api.SessionDifference{Before: l, After: l})), shown(noNames, api.ErrMissing))
		}
	}
	for _, x := range [][]int{nil, {}} {
		s := sources(source("a", x...))
		expect(t, x, shown(session.Render(s, steps("+k:gain:a:ann:0:1/1"), "k")), shown([]int{}, api.OK))
		expect(t, x, shown(session.Render(s, steps("+k:cut:a:ann:0:0 0"), "k")), shown([]int{}, api.ErrMissing))
		old := steps("+k:gain:a:ann:0:1/1")
		for _, e := range []api.Errno{api.OK, api.ErrLost} {
			expect(t, x, shown(session.Updated(s, api.SessionUpdate{Old: old, Results: results(result("k", e, x...)), New: old})), shown(results(result("k", e)), 0, api.OK))
		}
	}
	for _, inputs := range [][]string{nil, {}} {
		for _, v := range []string{"change k:ann:0:x", "undo k", "redo k"} {
			x := event(v)
			x.Step.Inputs = inputs
			expect(t, v, shown(session.CheckEvent(x)), shown(api.OK))
			expect(t, v, session.FormatEvent(x), v)
		}
		x := step(loud)
		x.Inputs = inputs
		expect(t, x, session.FormatStep(x), "+loud:gain::ann:0:3/2")
		expect(t, x, shown(session.CheckEvent(api.SessionEvent{Step: x})), shown(api.ErrShape))
	}
}

// R2: as much as the limits permit
func TestGreatestArguments(t *testing.T) {
	noisy := make([]int, 200)
	for i := range noisy {
		if i%10 >= 4 && i%10 <= 6 {
			noisy[i] = maxSample - i
		}
	}
	s := sources(source("a", noisy...), source("b", slices.Repeat([]int{maxSample, -maxSample}, 128)...))
	var before, after []api.SessionStep
	for i := range 16 {
		input := "a"
		if i > 0 {
			input = before[i-1].Name
		}
		kind := []string{"mend:" + input + ":ann:0:median 4 2000 2 8 100", "edit:" + input + ":ann:0:gain 0 49 0 4 8", "resample:" + input + ":ann:0:ratio 3 1 1", "join:" + input + ",a,a,a,a,a:ann:0:200,0 0 0"}[i%4]
		before = append(before, step(fmt.Sprintf("+s%02d:%s", i, kind)))
	}
	after = slices.Clone(before)
	for i := range 8 {
		after[i*2] = before[i*2]
		after[i*2].Doubt, after[i*2].By = 3, "bob"
	}
	expect(t, "alike", shown(session.Explained(s, api.SessionDifference{Before: before, After: after, Name: "s15"})), shown([]string{}, api.OK))
	// Each change makes a difference, so that all sets of changes are tried.
	before, after = nil, nil
	for i := range 8 {
		x := step(fmt.Sprintf("+s%02d:gain:a:ann:0:1/1", i*2))
		if i > 0 {
			x.Inputs[0] = before[i*2-1].Name
		}
		y := step(fmt.Sprintf("+s%02d:edit:%s:ann:0:gain 0 49 0 4 8", i*2+1, x.Name))
		before = append(before, x, y)
		x.Text = "-1/2"
		after = append(after, x, y)
	}
	l := sources(source("a", 32000, -32000))
	expect(t, "all", shown(session.Explained(l, api.SessionDifference{Before: before, After: after, Name: "s15"})), shown([]string{"s00", "s02", "s04", "s06", "s08", "s10", "s12", "s14"}, api.OK))
	expect(t, "order", shown(session.OrderOf(s, before)), shown(wantNames(before, func(api.SessionStep) bool { return true }), api.OK))
	for _, x := range before {
		if _, e := session.Render(s, before, x.Name); e != api.OK {
			t.Error(x, e)
		}
	}
}
