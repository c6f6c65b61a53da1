package listen_test

import (
	"slices"
	"testing"

	"lacquer/api"
	"lacquer/listen"
)

func rules(hidden ...int) api.ListenRules {
	return api.ListenRules{Hidden: hidden}
}

// state returns a state in which the sources of a string such as "02" were heard.
func state(playing int, heard string, answers ...int) api.ListenState {
	s := api.ListenState{Playing: playing, Answers: answers}
	for i := range len(heard) {
		s.Heard[heard[i]-'0'] = true
	}
	return s
}

func play(n int) api.ListenEvent   { return api.ListenEvent{Kind: api.ListenPlay, Number: n} }
func answer(n int) api.ListenEvent { return api.ListenEvent{Kind: api.ListenAnswer, Number: n} }
func stop() api.ListenEvent        { return api.ListenEvent{Kind: api.ListenStop} }
func repeat() api.ListenEvent      { return api.ListenEvent{Kind: api.ListenRepeat} }

func events(l ...api.ListenEvent) []api.ListenEvent {
	return l
}

// trial returns events that end with an answer.
func trial(n int) []api.ListenEvent {
	return events(play(0), play(1), play(2), answer(n))
}

// badRules is rules with their error.
type badRules struct {
	r api.ListenRules
	e api.Errno
}

func rulesWithErrors() []badRules {
	l := []badRules{{api.ListenRules{}, api.ErrShape}, {rules([]int{}...), api.ErrShape}, {rules(make([]int, 11)...), api.ErrLarge}, {rules(bad(11, 0, 2)...), api.ErrLarge}, {rules(make([]int, 100000)...), api.ErrLarge}}
	for _, n := range append(beyond(0, 1), 9) {
		l = append(l, badRules{rules(n), api.ErrRange}, badRules{rules(0, 1, n), api.ErrRange}, badRules{rules(bad(10, 9, n)...), api.ErrRange})
	}
	return l
}

// badState is a state of rules with its error.
type badState struct {
	r api.ListenRules
	s api.ListenState
	e api.Errno
}

func statesWithErrors() []badState {
	two := rules(0, 1)
	l := []badState{
		{two, state(-1, "", 0, 0, 0), api.ErrLarge}, {rules(1), state(-1, "", 0, 0), api.ErrLarge}, {two, state(-1, "", make([]int, 100000)...), api.ErrLarge}, {rules(make([]int, 10)...), state(-1, "", make([]int, 11)...), api.ErrLarge},
		{two, state(-1, "0", 0, 0), api.ErrState}, {two, state(-1, "1", 0, 0), api.ErrState}, {two, state(-1, "2", 0, 0), api.ErrState}, {two, state(0, "0", 0, 0), api.ErrState}, {two, state(2, "", 0, 0), api.ErrState}, {rules(1), state(1, "012", 1), api.ErrState},
		{two, state(0, ""), api.ErrForm}, {two, state(1, ""), api.ErrForm}, {two, state(2, ""), api.ErrForm}, {two, state(0, "12", 1), api.ErrForm}, {two, state(1, "02", 1), api.ErrForm}, {two, state(2, "01", 0), api.ErrForm},
		{two, api.ListenState{}, api.ErrForm},
		// Of several errors the first one.
		{two, state(3, "", 0, 0, 0), api.ErrRange}, {two, state(-2, "0", 9), api.ErrRange}, {two, state(0, "", 9, 9, 9), api.ErrLarge}, {two, state(0, "", 9), api.ErrRange}, {two, state(-1, "0", 0, 9), api.ErrRange},
	}
	for _, n := range beyond(-1, 2) {
		l = append(l, badState{two, state(n, ""), api.ErrRange}, badState{two, state(n, "012", 0), api.ErrRange})
	}
	for _, n := range append(beyond(0, 1), 9) {
		l = append(l, badState{two, state(-1, "", n), api.ErrRange}, badState{two, state(-1, "012", n), api.ErrRange}, badState{two, state(-1, "", 1, n), api.ErrRange})
	}
	for _, v := range rulesWithErrors() {
		l = append(l, badState{v.r, state(-1, ""), v.e}, badState{v.r, state(0, "012"), v.e}, badState{v.r, state(9, "", 9), v.e})
	}
	return l
}

// badEvent is an event with its error, whatever the state is.
type badEvent struct {
	x api.ListenEvent
	e api.Errno
}

func eventsWithErrors() []badEvent {
	var l []badEvent
	for _, n := range beyond(0, 3) {
		l = append(l, badEvent{api.ListenEvent{Kind: n}, api.ErrKind}, badEvent{api.ListenEvent{Kind: n, Number: n}, api.ErrKind})
	}
	for _, n := range beyond(0, 2) {
		l = append(l, badEvent{play(n), api.ErrRange})
	}
	for _, n := range beyond(0, 1) {
		l = append(l, badEvent{answer(n), api.ErrRange})
	}
	for _, n := range append(beyond(0, 0), 2, 9) {
		l = append(l, badEvent{api.ListenEvent{Kind: api.ListenStop, Number: n}, api.ErrForm}, badEvent{api.ListenEvent{Kind: api.ListenRepeat, Number: n}, api.ErrForm})
	}
	return l
}

// P9.7
func TestBegin(t *testing.T) {
	for _, r := range []api.ListenRules{rules(0), rules(1), rules(0, 1, 1, 0, 1, 0, 0, 1, 1, 1)} {
		expect(t, r, shown(listen.CheckRules(r)), shown(api.OK))
		expect(t, r, shown(listen.Begin(r)), shown(state(api.ListenNothing, ""), api.OK))
		expect(t, r, shown(listen.Replay(r, nil)), shown(state(api.ListenNothing, ""), 0, api.OK))
	}
	for _, v := range rulesWithErrors() {
		expect(t, v, shown(listen.CheckRules(v.r)), shown(v.e))
		expect(t, v, shown(listen.Begin(v.r)), shown(api.ListenState{}, v.e))
		expect(t, v, shown(listen.Replay(v.r, trial(0))), shown(api.ListenState{}, 0, v.e))
		expect(t, v, shown(listen.Replay(v.r, make([]api.ListenEvent, 201))), shown(api.ListenState{}, 0, v.e))
	}
}

// P9.7
func TestCheckState(t *testing.T) {
	for _, v := range []badState{
		{r: rules(1), s: state(-1, "")}, {r: rules(1), s: state(0, "0")}, {r: rules(1), s: state(2, "012")}, {r: rules(1), s: state(-1, "012")}, {r: rules(1), s: state(-1, "1")},
		{r: rules(1), s: state(-1, "", 0)}, {r: rules(0, 1), s: state(1, "1", 1)}, {r: rules(0, 1), s: state(-1, "", 1, 0)}, {r: rules(make([]int, 10)...), s: state(-1, "", make([]int, 10)...)},
	} {
		expect(t, v, shown(listen.CheckState(v.r, v.s)), shown(api.OK))
	}
	for _, v := range statesWithErrors() {
		expect(t, v, shown(listen.CheckState(v.r, v.s)), shown(v.e))
		expect(t, v, shown(listen.ScoreOf(v.r, v.s)), shown(0, v.e))
		for _, e := range events(play(0), stop(), answer(1), repeat(), play(3), api.ListenEvent{Kind: -1}) {
			expect(t, v, shown(listen.Apply(v.r, v.s, e)), shown(api.ListenState{}, v.e))
		}
	}
}

// P9.7, example 8
func TestApply(t *testing.T) {
	one, two := rules(1), rules(1, 0)
	for _, v := range []struct {
		r     api.ListenRules
		s     api.ListenState
		event api.ListenEvent
		want  api.ListenState
		e     api.Errno
	}{
		{one, state(-1, ""), play(0), state(0, "0"), api.OK},
		{one, state(-1, ""), play(2), state(2, "2"), api.OK},
		{one, state(0, "0"), play(1), state(1, "01"), api.OK},
		{two, state(0, "012", 1), play(2), state(2, "012", 1), api.OK},
		{one, state(-1, "2"), play(2), state(2, "2"), api.OK},
		{one, state(2, "2"), play(2), api.ListenState{}, api.ErrDouble},
		{one, state(0, "012"), play(0), api.ListenState{}, api.ErrDouble},
		{one, state(-1, "", 0), play(0), api.ListenState{}, api.ErrState},
		{two, state(-1, "", 0, 1), play(2), api.ListenState{}, api.ErrState},
		{one, state(1, "01"), stop(), state(-1, "01"), api.OK},
		{two, state(2, "012", 1), stop(), state(-1, "012", 1), api.OK},
		{one, state(-1, ""), stop(), api.ListenState{}, api.ErrState},
		{one, state(-1, "012"), stop(), api.ListenState{}, api.ErrState},
		{one, state(-1, "", 1), stop(), api.ListenState{}, api.ErrState},
		{one, state(2, "012"), answer(1), state(-1, "", 1), api.OK},
		{one, state(-1, "012"), answer(0), state(-1, "", 0), api.OK},
		{two, state(0, "012", 1), answer(0), state(-1, "", 1, 0), api.OK},
		{one, state(1, "01"), answer(0), api.ListenState{}, api.ErrGap},
		{one, state(-1, "02"), answer(1), api.ListenState{}, api.ErrGap},
		{one, state(-1, "12"), answer(1), api.ListenState{}, api.ErrGap},
		{one, state(-1, ""), answer(1), api.ListenState{}, api.ErrGap},
		{two, state(-1, "", 1), answer(1), api.ListenState{}, api.ErrGap},
		{one, state(-1, "", 1), answer(1), api.ListenState{}, api.ErrState},
		// The last answer can be taken back after the session has ended.
		{one, state(-1, "", 1), repeat(), state(-1, ""), api.OK},
		{two, state(-1, "", 1, 0), repeat(), state(-1, "", 1), api.OK},
		{two, state(-1, "012", 1), repeat(), state(-1, ""), api.OK},
		{two, state(0, "0", 1), repeat(), api.ListenState{}, api.ErrBusy},
		{one, state(-1, "012"), repeat(), api.ListenState{}, api.ErrNone},
		{one, state(0, "0"), repeat(), api.ListenState{}, api.ErrNone},
	} {
		expect(t, v, shown(listen.Apply(v.r, v.s, v.event)), shown(v.want, v.e))
	}
	for _, v := range eventsWithErrors() {
		for _, s := range []api.ListenState{state(-1, ""), state(2, "012", 1), state(-1, "012"), state(-1, "", 1, 1)} {
			expect(t, v, shown(listen.Apply(two, s, v.x)), shown(api.ListenState{}, v.e))
		}
	}
}

// P9.7, example 8
func TestReplay(t *testing.T) {
	for _, v := range []struct {
		r     api.ListenRules
		l     []api.ListenEvent
		want  api.ListenState
		index int
		e     api.Errno
	}{
		{rules(1), trial(1), state(-1, "", 1), 0, api.OK},
		{rules(1), events(play(0), play(1), answer(0)), api.ListenState{}, 2, api.ErrGap},
		{rules(1), events(play(0), play(1), answer(0), play(7)), api.ListenState{}, 2, api.ErrGap},
		{rules(0, 1), slices.Concat(trial(0), trial(1)), state(-1, "", 0, 1), 0, api.OK},
		{rules(0, 1), slices.Concat(trial(0), trial(1), trial(0)), api.ListenState{}, 8, api.ErrState},
		{rules(0, 1), slices.Concat(trial(0), events(answer(1))), api.ListenState{}, 4, api.ErrGap},
		{rules(0, 1), slices.Concat(trial(0), events(repeat(), answer(1))), api.ListenState{}, 5, api.ErrGap},
		{rules(1), slices.Concat(trial(0), events(repeat()), trial(1)), state(-1, "", 1), 0, api.OK},
		// The hidden source may be played as often as wanted.
		{rules(1), events(play(2), stop(), play(2), play(0), play(2), play(1), stop(), play(2)), state(2, "012"), 0, api.OK},
		{rules(1), events(stop()), api.ListenState{}, 0, api.ErrState},
		{rules(1), events(play(0), api.ListenEvent{Kind: 4}), api.ListenState{}, 1, api.ErrKind},
		{rules(1), events(play(0), play(3)), api.ListenState{}, 1, api.ErrRange},
		{rules(1), events(play(0), answer(2)), api.ListenState{}, 1, api.ErrRange},
		{rules(1), events(play(0), api.ListenEvent{Kind: api.ListenStop, Number: 1}), api.ListenState{}, 1, api.ErrForm},
		{rules(1), slices.Repeat(events(play(2), stop()), 100), state(-1, "2"), 0, api.OK},
		{rules(1), append(slices.Repeat(events(play(2), stop()), 99), play(2), play(2)), api.ListenState{}, 199, api.ErrDouble},
		{rules(1), append(slices.Repeat(events(play(2), stop()), 100), play(0)), api.ListenState{}, 0, api.ErrLarge},
		{rules(1), make([]api.ListenEvent, 201), api.ListenState{}, 0, api.ErrLarge},
		{rules(1), slices.Repeat(events(api.ListenEvent{Kind: -1}), 201), api.ListenState{}, 0, api.ErrLarge},
		{rules(1), make([]api.ListenEvent, 100000), api.ListenState{}, 0, api.ErrLarge},
		{rules(make([]int, 10)...), slices.Repeat(trial(1), 10), state(-1, "", slices.Repeat([]int{1}, 10)...), 0, api.OK},
	} {
		expect(t, v, shown(listen.Replay(v.r, v.l)), shown(v.want, v.index, v.e))
	}
}

// P9.7, example 8
func TestScoreOf(t *testing.T) {
	for _, v := range []struct {
		r    api.ListenRules
		s    api.ListenState
		want int
	}{
		{rules(1), state(-1, "", 1), 1}, {rules(1), state(-1, "", 0), 0}, {rules(0), state(-1, "", 0), 1}, {rules(0), state(2, "2"), 0},
		{rules(0, 1, 1, 0), state(-1, "", 0, 1, 1, 0), 4}, {rules(0, 1, 1, 0), state(-1, "", 1, 0, 0, 1), 0}, {rules(0, 1, 1, 0), state(0, "0", 0, 0, 1), 2}, {rules(0, 1, 1, 0), state(-1, "", 1, 1), 1},
	} {
		expect(t, v, shown(listen.ScoreOf(v.r, v.s)), shown(v.want, api.OK))
	}
}

// stateAfter returns the state after events that were accepted: what was heard follows from those since the last answer or repeat.
func stateAfter(l []api.ListenEvent) api.ListenState {
	s := state(api.ListenNothing, "")
	since := 0
	for i, e := range l {
		switch e.Kind {
		case api.ListenAnswer:
			s.Answers = append(s.Answers, e.Number)
			since = i + 1
		case api.ListenRepeat:
			s.Answers = s.Answers[:len(s.Answers)-1]
			since = i + 1
		}
	}
	for _, e := range l[since:] {
		s.Playing = api.ListenNothing
		if e.Kind == api.ListenPlay {
			s.Playing = e.Number
			s.Heard[e.Number] = true
		}
	}
	return s
}

// errorAfter returns the error of an event by the table.
func errorAfter(trials int, s api.ListenState, e api.ListenEvent) api.Errno {
	all := len(s.Answers) == trials
	switch {
	case e.Kind == api.ListenPlay && all, e.Kind == api.ListenStop && s.Playing == -1, e.Kind == api.ListenAnswer && all:
		return api.ErrState
	case e.Kind == api.ListenPlay && s.Playing == e.Number:
		return api.ErrDouble
	case e.Kind == api.ListenAnswer && !(s.Heard[0] && s.Heard[1] && s.Heard[2]):
		return api.ErrGap
	case e.Kind == api.ListenRepeat && len(s.Answers) == 0:
		return api.ErrNone
	case e.Kind == api.ListenRepeat && s.Playing != -1:
		return api.ErrBusy
	}
	return api.OK
}

// allHeardBefore tells whether all sources were played between the beginning of each trial and its answer.
func allHeardBefore(l []api.ListenEvent) bool {
	heard := map[int]bool{}
	for _, e := range l {
		switch e.Kind {
		case api.ListenPlay:
			heard[e.Number] = true
		case api.ListenAnswer:
			if len(heard) < 3 {
				return false
			}
			clear(heard)
		case api.ListenRepeat:
			clear(heard)
		}
	}
	return true
}

// P9.7, P9.14
func TestSomeSessions(t *testing.T) {
	d := dice(8)
	kinds := events(play(0), play(1), play(2), stop(), answer(0), answer(1), repeat())
	for range 400 {
		r := api.ListenRules{Hidden: make([]int, between(d, 1, 4))}
		for i := range r.Hidden {
			r.Hidden[i] = d.IntN(2)
		}
		var accepted []api.ListenEvent
		for range 60 {
			e := kinds[d.IntN(len(kinds))]
			before := stateAfter(accepted)
			got, err := listen.Apply(r, before, e)
			want := errorAfter(len(r.Hidden), before, e)
			if want == api.OK {
				accepted = append(accepted, e)
				expect(t, accepted, shown(got, err), shown(stateAfter(accepted), api.OK))
			} else {
				expect(t, accepted, shown(got, err), shown(api.ListenState{}, want))
				expect(t, accepted, shown(listen.Replay(r, append(slices.Clone(accepted), e))), shown(api.ListenState{}, len(accepted), want))
			}
		}
		s, _, err := listen.Replay(r, accepted)
		expect(t, accepted, shown(s, err), shown(stateAfter(accepted), api.OK))
		expect(t, accepted, shown(listen.CheckState(r, s)), shown(api.OK))
		score, err := listen.ScoreOf(r, s)
		right := 0
		for i, n := range s.Answers {
			if n == r.Hidden[i] {
				right++
			}
		}
		expect(t, accepted, shown(score, err), shown(right, api.OK))
		if score > len(s.Answers) || !allHeardBefore(accepted) {
			t.Error(accepted, score)
		}
	}
}
