package listen

import (
	"slices"

	"lacquer/api"
)

// CheckRules returns the error of the rules of a session (P9.7).
func CheckRules(r api.ListenRules) api.Errno {
	return firstError(
		when(len(r.Hidden) == 0, api.ErrShape),
		when(len(r.Hidden) > api.MaxListenSession, api.ErrLarge),
		checkEach(r.Hidden, checkAnswer))
}

// Begin returns the state at the beginning of a session (P9.7).
func Begin(r api.ListenRules) (api.ListenState, api.Errno) {
	if e := CheckRules(r); e != api.OK {
		return api.ListenState{}, e
	}
	return api.ListenState{Playing: api.ListenNothing}, api.OK
}

// CheckState returns the error of a state of a session (P9.7).
func CheckState(r api.ListenRules, s api.ListenState) api.Errno {
	e := firstError(
		CheckRules(r),
		from(api.ListenNothing, api.ListenSources-1)(s.Playing),
		when(len(s.Answers) > len(r.Hidden), api.ErrLarge),
		checkEach(s.Answers, checkAnswer))
	if e != api.OK {
		return e
	}
	return firstError(
		when(hasEnded(r, s) && (isPlaying(s) || s.Heard != [3]bool{}), api.ErrState),
		when(isPlaying(s) && !s.Heard[max(s.Playing, 0)], api.ErrForm))
}

// Apply returns the state of a session after an event (P9.7).
func Apply(r api.ListenRules, s api.ListenState, e api.ListenEvent) (api.ListenState, api.Errno) {
	if err := firstError(CheckState(r, s), checkEvent(e)); err != api.OK {
		return api.ListenState{}, err
	}
	if err := checkPossible(r, s, e); err != api.OK {
		return api.ListenState{}, err
	}
	return after(s, e), api.OK
}

// Replay returns the state of a session after events, from the beginning on (P9.7).
func Replay(r api.ListenRules, l []api.ListenEvent) (api.ListenState, int, api.Errno) {
	s, err := Begin(r)
	if err != api.OK {
		return api.ListenState{}, 0, err
	}
	if len(l) > api.MaxListenEvents {
		return api.ListenState{}, 0, api.ErrLarge
	}
	for i, e := range l {
		s, err = Apply(r, s, e)
		if err != api.OK {
			return api.ListenState{}, i, err
		}
	}
	return s, 0, api.OK
}

// ScoreOf returns how many answers are right (P9.7).
func ScoreOf(r api.ListenRules, s api.ListenState) (int, api.Errno) {
	if e := CheckState(r, s); e != api.OK {
		return 0, e
	}
	score := 0
	for trial, answer := range s.Answers {
		if answer == r.Hidden[trial] {
			score++
		}
	}
	return score, api.OK
}

func checkAnswer(answer int) api.Errno {
	return from(0, api.ListenAlternative-1)(answer)
}

func checkEvent(e api.ListenEvent) api.Errno {
	if !isKind(e.Kind) {
		return api.ErrKind
	}
	if numbers := eventKinds[e.Kind].numbers; numbers > 0 {
		return from(0, numbers-1)(e.Number)
	}
	return when(e.Number != 0, api.ErrForm)
}

// checkPossible returns the error of an event, which is valid, in a state.
func checkPossible(r api.ListenRules, s api.ListenState, e api.ListenEvent) api.Errno {
	switch e.Kind {
	case api.ListenPlay:
		return firstError(
			when(hasEnded(r, s), api.ErrState),
			when(s.Playing == e.Number, api.ErrDouble))
	case api.ListenStop:
		return when(!isPlaying(s), api.ErrState)
	case api.ListenAnswer:
		return firstError(
			when(hasEnded(r, s), api.ErrState),
			when(s.Heard != [3]bool{true, true, true}, api.ErrGap))
	}
	return firstError(
		when(len(s.Answers) == 0, api.ErrNone),
		when(isPlaying(s), api.ErrBusy))
}

// after returns the state, in memory of its own, after an event that is possible.
func after(s api.ListenState, e api.ListenEvent) api.ListenState {
	s.Answers = slices.Clone(s.Answers)
	switch e.Kind {
	case api.ListenPlay:
		s.Playing = e.Number
		s.Heard[e.Number] = true
	case api.ListenStop:
		s.Playing = api.ListenNothing
	case api.ListenAnswer:
		return api.ListenState{Playing: api.ListenNothing, Answers: append(s.Answers, e.Number)}
	case api.ListenRepeat:
		return api.ListenState{Playing: api.ListenNothing, Answers: s.Answers[:len(s.Answers)-1]}
	}
	return s
}

func hasEnded(r api.ListenRules, s api.ListenState) bool {
	return len(s.Answers) == len(r.Hidden)
}

func isPlaying(s api.ListenState) bool {
	return s.Playing != api.ListenNothing
}
