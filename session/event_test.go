package session_test

import (
	"fmt"
	"slices"
	"strings"
	"testing"

	"lacquer/api"
	"lacquer/session"
)

// badEvent is an event with its error, whatever the steps are.
type badEvent struct {
	x api.SessionEvent
	e api.Errno
}

func eventsWithErrors() []badEvent {
	var l []badEvent
	for _, kind := range beyond(0, 3) {
		l = append(l, badEvent{api.SessionEvent{Kind: kind}, api.ErrKind}, badEvent{api.SessionEvent{Kind: kind, Step: step(loud)}, api.ErrKind})
	}
	for _, x := range stepsAlone() {
		for _, isActive := range []bool{false, true} {
			x.x.Active = isActive
			l = append(l, badEvent{api.SessionEvent{Step: x.x}, x.e})
		}
	}
	for _, s := range rightSteps() {
		l = append(l, badEvent{event("add -" + s[1:]), api.ErrForm})
	}
	for _, s := range []string{"change loud:ann:0:1/4", "undo part", "redo part"} {
		good := event(s)
		add := func(e api.Errno, change func(*api.SessionStep)) {
			x := good
			change(&x.Step)
			l = append(l, badEvent{x, e})
		}
		for _, name := range wrongNames() {
			add(api.ErrName, func(x *api.SessionStep) { x.Name = name })
			add(api.ErrName, func(x *api.SessionStep) { x.Name, x.Active, x.By, x.Doubt = name, true, "", -1 })
		}
		for _, kind := range append(beyond(0, 5), 1, 2, 3, 4, 5) {
			add(api.ErrForm, func(x *api.SessionStep) { x.Kind = kind })
		}
		for _, inputs := range [][]string{{"a"}, {""}, {"b", "a"}, make([]string, 1000)} {
			add(api.ErrForm, func(x *api.SessionStep) { x.Inputs = inputs })
		}
		add(api.ErrForm, func(x *api.SessionStep) { x.Active = true })
		add(api.ErrForm, func(x *api.SessionStep) { x.Active, x.By, x.Doubt = true, "", 4 })
		if good.Kind == api.SessionChange {
			l = append(l, changesWithErrors(good)...)
			continue
		}
		add(api.ErrForm, func(x *api.SessionStep) { x.Text = " " })
		add(api.ErrForm, func(x *api.SessionStep) { x.Text = strings.Repeat("x", 201) })
		add(api.ErrForm, func(x *api.SessionStep) { x.By = "ann" })
		for _, doubt := range append(beyond(0, 3), 1, 3) {
			add(api.ErrForm, func(x *api.SessionStep) { x.Doubt = doubt })
		}
	}
	return l
}

func changesWithErrors(good api.SessionEvent) []badEvent {
	var l []badEvent
	for _, name := range wrongNames() {
		x := good
		x.Step.By = name
		l = append(l, badEvent{x, api.ErrName})
		x.Step.Doubt, x.Step.Text = 4, strings.Repeat("x", 201)
		l = append(l, badEvent{x, api.ErrName})
		x.Step.Kind = 1
		l = append(l, badEvent{x, api.ErrForm})
	}
	for _, doubt := range beyond(0, 3) {
		x := good
		x.Step.Doubt = doubt
		l = append(l, badEvent{x, api.ErrRange})
		x.Step.Text = strings.Repeat("x", 201)
		l = append(l, badEvent{x, api.ErrRange})
	}
	for _, text := range []string{strings.Repeat("x", 201), strings.Repeat("1", 100000)} {
		x := good
		x.Step.Text = text
		l = append(l, badEvent{x, api.ErrLarge})
	}
	return l
}

func validEvents() []api.SessionEvent {
	l := events("add "+loud, "add "+part, "change loud:ann:0:1/4", "change part:ann:2:0 0", "undo part", "redo part", "undo part2", "redo nothing", "change k:bob:3:", "change k:bob:0:no rules: of any kind", "change a:a:0:"+strings.Repeat("x", 200))
	for _, s := range rightSteps() {
		l = append(l, event("add "+s))
	}
	for _, name := range rightNames() {
		l = append(l, events("undo "+name, "redo "+name, "change "+name+":"+name+":3:x", "add +"+name+":gain:"+name+":"+name+":3:1/1")...)
	}
	return l
}

// P8.2
func TestCheckEvent(t *testing.T) {
	for _, x := range validEvents() {
		expect(t, x, shown(session.CheckEvent(x)), shown(api.OK))
	}
	for _, x := range eventsWithErrors() {
		expect(t, x, shown(session.CheckEvent(x.x)), shown(x.e))
	}
}

// P8.2, examples 1 to 3, and the table
func TestApply(t *testing.T) {
	both := steps(loud, part)
	undone := steps("-loud:gain:a:ann:0:3/2", "-part:cut:loud:ann:2:1 2")
	half := steps(loud, "-part:cut:loud:ann:2:1 2")
	full := append(named(15), step("-z:gain:a:ann:0:1/1"))
	for _, v := range []struct {
		l     []api.SessionStep
		event string
		want  []api.SessionStep
		e     api.Errno
	}{
		{nil, "add " + loud, steps(loud), api.OK},
		{steps(loud), "add " + part, both, api.OK},
		{steps(loud), "add +k:gain:b:ann:3:-1/1", steps("+k:gain:b:ann:3:-1/1", loud), api.OK},
		{steps(loud), "add +K:join:loud,a,loud:ann:3:2,0 0 0", steps("+K:join:loud,a,loud:ann:3:2,0 0 0", loud), api.OK},
		{both, "add +m:gain:loud:ann:0:1/1", steps(loud, "+m:gain:loud:ann:0:1/1", part), api.OK},
		{both, "add " + loud, nil, api.ErrExists}, {both, "add +a:gain:b:ann:0:1/1", nil, api.ErrExists}, {undone, "add +part:gain:b:ann:0:1/1", nil, api.ErrExists},
		{full, "add " + loud, nil, api.ErrFull}, {named(16), "add " + loud, nil, api.ErrFull}, {named(15), "add +z:gain:a:ann:0:1/1", append(named(15), step("+z:gain:a:ann:0:1/1")), api.OK},
		{both, "add +k:gain:c:ann:0:1/1", nil, api.ErrMissing}, {both, "add +k:gain:k:ann:0:1/1", nil, api.ErrMissing}, {half, "add +k:gain:part:ann:0:1/1", nil, api.ErrMissing}, {half, "add +k:join:a,loud,part:ann:0:1,0 0 0", nil, api.ErrMissing}, {nil, "add +k:gain:A:ann:0:1/1", nil, api.ErrMissing},
		// Of several errors the first one.
		{named(16), "add +s0000:gain:z:ann:0:1/1", nil, api.ErrExists}, {named(16), "add +k:gain:z:ann:0:1/1", nil, api.ErrFull}, {both, "add +loud:gain:z:ann:0:1/1", nil, api.ErrExists}, {both, "add +b:gain:z:ann:0:1/1", nil, api.ErrExists},

		{both, "change loud:bob:1:1/4", steps("+loud:gain:a:bob:1:1/4", part), api.OK},
		{both, "change part:ann:2:0 0", steps(loud, "+part:cut:loud:ann:2:0 0"), api.OK},
		{both, "change part:ann:2:1 2", both, api.OK},
		{both, "change part:c:3:5 9999999", steps(loud, "+part:cut:loud:c:3:5 9999999"), api.OK},
		{both, "change k:ann:0:1/1", nil, api.ErrMissing}, {both, "change a:ann:0:1/1", nil, api.ErrMissing}, {nil, "change loud:ann:0:x", nil, api.ErrMissing},
		{half, "change part:ann:0:0 0", nil, api.ErrState}, {undone, "change loud:ann:0:x", nil, api.ErrState},
		{both, "change loud:ann:0:1 2", nil, api.ErrSyntax}, {both, "change part:ann:0:1/2", nil, api.ErrSyntax}, {both, "change loud:ann:0:1/0", nil, api.ErrRange}, {both, "change part:ann:0:2 1", nil, api.ErrOrder}, {both, "change loud:ann:0:", nil, api.ErrSyntax},

		{both, "undo part", half, api.OK}, {half, "undo loud", undone, api.OK}, {both, "undo loud", nil, api.ErrBusy}, {half, "undo part", nil, api.ErrState}, {both, "undo a", nil, api.ErrMissing}, {both, "undo k", nil, api.ErrMissing}, {nil, "undo loud", nil, api.ErrMissing},
		{both, "redo part", nil, api.ErrState}, {half, "redo part", both, api.OK}, {undone, "redo part", nil, api.ErrGap}, {undone, "redo loud", half, api.OK}, {undone, "redo b", nil, api.ErrMissing}, {both, "redo k", nil, api.ErrMissing},
	} {
		expect(t, v, shown(session.Apply(example(), v.l, event(v.event))), shown(v.want, v.e))
	}
}

// P8.2: a step whose function has an error is active all the same
func TestStepsWithoutSignal(t *testing.T) {
	l := mustReplay(t, "add +k:gain:a:ann:0:1000/1", "add +m:cut:k:ann:0:0 0")
	for _, v := range []struct {
		event string
		e     api.Errno
	}{{"undo m", api.OK}, {"change k:ann:0:1/1", api.OK}, {"change m:ann:0:9 9", api.OK}, {"undo k", api.ErrBusy}, {"add +n:gain:m:ann:0:1/1", api.OK}} {
		if _, e := session.Apply(example(), l, event(v.event)); e != v.e {
			t.Error(v, e)
		}
	}
}

// stepOf returns the step of a name, if there is one.
func stepOf(l []api.SessionStep, name string) (api.SessionStep, bool) {
	for _, x := range l {
		if x.Name == name {
			return x, true
		}
	}
	return api.SessionStep{}, false
}

// isReady tells whether an input is a source or an active step.
func isReady(l []api.SessionStep, input string) bool {
	x, _ := stepOf(l, input)
	return input == "a" || input == "b" || x.Active
}

func allReady(l []api.SessionStep, inputs []string) bool {
	for _, input := range inputs {
		if !isReady(l, input) {
			return false
		}
	}
	return true
}

// refusal is the document's table, for the sources of the examples.
func refusal(l []api.SessionStep, e api.SessionEvent) api.Errno {
	x, exists := stepOf(l, e.Step.Name)
	switch {
	case e.Kind == api.SessionAdd && (exists || e.Step.Name == "a" || e.Step.Name == "b"):
		return api.ErrExists
	case e.Kind == api.SessionAdd && len(l) == 16:
		return api.ErrFull
	case e.Kind == api.SessionAdd && !allReady(l, e.Step.Inputs):
		return api.ErrMissing
	case e.Kind == api.SessionAdd:
		return api.OK
	case !exists:
		return api.ErrMissing
	case x.Active == (e.Kind == api.SessionRedo):
		return api.ErrState
	case e.Kind == api.SessionRedo && !allReady(l, x.Inputs):
		return api.ErrGap
	case e.Kind == api.SessionChange:
		x.Text = e.Step.Text
		_, err := session.ParseStep(session.FormatStep(x))
		return err
	}
	for _, other := range l {
		if e.Kind == api.SessionUndo && other.Active && slices.Contains(other.Inputs, x.Name) {
			return api.ErrBusy
		}
	}
	return api.OK
}

// applied is the document's table for an event that is accepted.
func applied(l []api.SessionStep, e api.SessionEvent) []api.SessionStep {
	l = slices.Clone(l)
	if e.Kind == api.SessionAdd {
		l = append(l, e.Step)
		slices.SortFunc(l, func(a, b api.SessionStep) int { return strings.Compare(a.Name, b.Name) })
		return l
	}
	for i := range l {
		if l[i].Name == e.Step.Name && e.Kind == api.SessionChange {
			l[i].Text, l[i].By, l[i].Doubt = e.Step.Text, e.Step.By, e.Step.Doubt
		} else if l[i].Name == e.Step.Name {
			l[i].Active = e.Kind == api.SessionRedo
		}
	}
	return l
}

// P8.2, P8.13: random events are compared with the table, and the steps after them are valid
func TestApplyIsTheTable(t *testing.T) {
	d := dice(2)
	counts := map[string]int{}
	for range 300 {
		var l []api.SessionStep
		var log []api.SessionEvent
		for range 60 {
			e := someEvent(d, l, fewNames())
			want := refusal(l, e)
			counts[fmt.Sprint(e.Kind, want)]++
			next, err := session.Apply(example(), l, e)
			if want != api.OK {
				expect(t, e, shown(next, err), shown([]api.SessionStep{}, want))
				expect(t, e, shown(session.Replay(example(), append(log[:len(log):len(log)], e))), shown([]api.SessionStep{}, len(log), want))
				continue
			}
			expect(t, e, shown(next, err), shown(applied(l, e), api.OK))
			expect(t, e, shown(session.CheckSteps(example(), next)), shown(0, api.OK))
			l, log = next, append(log, e)
		}
		expect(t, log, shown(session.Replay(example(), log)), shown(l, 0, api.OK))
	}
	if len(counts) < 14 {
		t.Error("some errors are missing:", counts)
	}
}

// P8.2
func TestReplay(t *testing.T) {
	expect(t, "none", shown(session.Replay(example(), nil)), shown([]api.SessionStep{}, 0, api.OK))
	hundred := events("add " + loud)
	for len(hundred) < 99 {
		hundred = append(hundred, events("undo loud", "redo loud")...)
	}
	hundred = append(hundred, event("undo loud"))
	expect(t, "hundred", shown(session.Replay(example(), hundred)), shown(steps("-loud:gain:a:ann:0:3/2"), 0, api.OK))
	more := append(slices.Clone(hundred), event("redo loud"))
	expect(t, "more", shown(session.Replay(example(), more)), shown([]api.SessionStep{}, 0, api.ErrLarge))
	expect(t, "more", shown(session.Replay(example(), make([]api.SessionEvent, 101))), shown([]api.SessionStep{}, 0, api.ErrLarge))
	for _, v := range []struct {
		l     []api.SessionEvent
		index int
		e     api.Errno
	}{
		{events("undo loud"), 0, api.ErrMissing}, {events("add "+loud, "add "+part, "undo loud", "undo "), 2, api.ErrBusy},
		{events("add "+loud, "undo ", "undo k"), 1, api.ErrName}, {events("add "+loud, "undo k", "undo "), 1, api.ErrMissing},
		{append(slices.Clone(hundred[:99]), event("redo loud")), 99, api.ErrState},
	} {
		expect(t, v, shown(session.Replay(example(), v.l)), shown([]api.SessionStep{}, v.index, v.e))
	}
	for _, x := range sourcesWithErrors() {
		expect(t, x.e, shown(session.Replay(x.l, events("undo "))), shown([]api.SessionStep{}, 0, x.e))
		expect(t, x.e, shown(session.Replay(x.l, more)), shown([]api.SessionStep{}, 0, x.e))
	}
	for _, x := range eventsWithErrors() {
		expect(t, x, shown(session.Replay(example(), []api.SessionEvent{event("add " + loud), x.x, event("undo ")})), shown([]api.SessionStep{}, 1, x.e))
	}
}

// P8.2, example 2
func TestPossible(t *testing.T) {
	expect(t, "example", shown(session.Possible(example(), steps(loud, part))), shown(events("undo part"), api.OK))
	expect(t, "none", shown(session.Possible(example(), nil)), shown(events(), api.OK))
	expect(t, "both", shown(session.Possible(example(), steps("-loud:gain:a:ann:0:3/2", "-part:cut:loud:ann:2:1 2"))), shown(events("redo loud"), api.OK))
	d := dice(3)
	for range 400 {
		l := someSteps(d)
		var want []api.SessionEvent
		for _, x := range l {
			for _, word := range []string{"undo ", "redo "} {
				if _, e := session.Apply(example(), l, event(word+x.Name)); e == api.OK {
					want = append(want, event(word+x.Name))
				}
			}
		}
		expect(t, l, shown(session.Possible(example(), l)), shown(want, api.OK))
	}
}

// P8.8: undoing steps and doing them again gives the same steps
func TestUndoingAndDoingAgain(t *testing.T) {
	d := dice(4)
	for range 300 {
		l := someSteps(d)
		now := l
		for range 40 {
			possible, e := session.Possible(example(), now)
			if e != api.OK {
				t.Fatal(l, e)
			}
			if len(possible) == 0 {
				break
			}
			now, e = session.Apply(example(), now, oneOf(d, possible))
			if e != api.OK {
				t.Fatal(l, e)
			}
		}
		expect(t, l, shown(backTo(t, now, l)), shown(l))
	}
}

// backTo undoes and does again what differs from steps, as far as this is permitted.
func backTo(t *testing.T, now, l []api.SessionStep) []api.SessionStep {
	t.Helper()
	for changed := true; changed; {
		changed = false
		possible, _ := session.Possible(example(), now)
		for _, e := range possible {
			x, _ := stepOf(l, e.Step.Name)
			next, err := session.Apply(example(), now, e)
			if x.Active == (e.Kind == api.SessionRedo) && err == api.OK {
				now, changed = next, true
			}
		}
	}
	return now
}
