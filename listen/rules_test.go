package listen_test

import (
	"slices"
	"testing"

	"lacquer/api"
	"lacquer/listen"
)

// unchanged makes a call twice, spoils its first result in between, and expects that neither the arguments nor the second result differ (R3, R4).
func unchanged[T any](t *testing.T, what string, arguments any, call func() (T, api.Errno), spoil func(T)) {
	t.Helper()
	before := shown(arguments)
	first, e := call()
	want := shown(first, e)
	if e != api.OK {
		t.Error(what, e)
	}
	spoil(first)
	expect(t, what, shown(call()), want)
	expect(t, what, shown(arguments), before)
}

// spoilList overwrites a list, and the room behind it, which belongs to it, too.
func spoilList[T any](other T) func([]T) {
	return func(l []T) {
		for i := range l {
			l[i] = other
		}
		_ = append(l, other)
	}
}

func spoilNothing[T any](T) {}

// R3, R4
func TestSignalsAreNotShared(t *testing.T) {
	all := []int{1, 1, 4, 6, 0, 7, 7}
	m := meter(2, 1, 4, 50)
	unchanged(t, "blocks", all, func() ([]int, api.Errno) { return listen.GatedBlocks(m, all[:5]) }, spoilList(-1))
	unchanged(t, "loudness", all, func() (api.Frac, api.Errno) { return listen.LoudnessOf(m, all[:5]) }, spoilNothing)
	unchanged(t, "peak", all, func() (api.Frac, api.Errno) { return listen.TruePeak(all[:5]) }, spoilNothing)
	unchanged(t, "headroom", all, func() (api.Frac, api.Errno) { return listen.Headroom(all[:5]) }, spoilNothing)
}

// R3, R4
func TestRankingsAreNotShared(t *testing.T) {
	numbers := []int{0, 3, 2, 2, 0, 4, 3, 1, 0, 9}
	p := [][]int{numbers[0:3], numbers[3:6], numbers[6:9], numbers}
	order := []int{1, 2, 0, 5}
	all := []any{numbers, p, order}
	unchanged(t, "best", all, func() ([]int, api.Errno) {
		l, _, e := listen.BestRanking(p[:3])
		return l, e
	}, spoilList(-1))
	unchanged(t, "bound", all, func() (int, api.Errno) { return listen.RankingBound(p[:3]) }, spoilNothing)
	unchanged(t, "disagreements", all, func() (int, api.Errno) { return listen.Disagreements(p[:3], order[:3]) }, spoilNothing)
}

// R3, R4
func TestNotesAreNotShared(t *testing.T) {
	l := notes(note(10, 5), note(3, 0), note(7, 1), note(99, 99))
	e := edits(cut(12, 2), insertion(3, 4), cut(99, 1))
	unchanged(t, "moved", []any{l, e}, func() ([]api.ListenNote, api.Errno) { return listen.Moved(l[:3], e[:2]) }, spoilList(note(7, 7)))
	unchanged(t, "not moved", l, func() ([]api.ListenNote, api.Errno) { return listen.Moved(l[:3], nil) }, spoilList(note(7, 7)))
}

// R3, R4
func TestSessionsAreNotShared(t *testing.T) {
	hidden := []int{1, 0, 1, 0, 9}
	r := rules(hidden[:4]...)
	spoil := func(s api.ListenState) { spoilList(7)(s.Answers) }
	answers := []int{1, 1, 0, 1, 9}
	for count := range 4 {
		s := state(-1, "012")
		s.Answers = answers[:count]
		all := []any{hidden, r, answers, s}
		possible := events(play(1), answer(0), answer(1))
		if count > 0 {
			possible = append(possible, repeat())
		}
		for _, e := range possible {
			unchanged(t, listen.FormatEvent(e), all, func() (api.ListenState, api.Errno) { return listen.Apply(r, s, e) }, spoil)
		}
		unchanged(t, "score", all, func() (int, api.Errno) { return listen.ScoreOf(r, s) }, spoilNothing)
		s.Playing = 2
		unchanged(t, "stop", all, func() (api.ListenState, api.Errno) { return listen.Apply(r, s, stop()) }, spoil)
	}
	l := slices.Concat(trial(0), trial(1), events(repeat(), play(2)), trial(0))
	unchanged(t, "replay", []any{hidden, l}, func() (api.ListenState, api.Errno) {
		s, _, e := listen.Replay(r, l[:9])
		return s, e
	}, spoil)
	unchanged(t, "begin", hidden, func() (api.ListenState, api.Errno) { return listen.Begin(r) }, spoil)
	heard := answersOf("rwrrr")
	unchanged(t, "outcome", heard, func() (api.ListenOutcome, api.Errno) { return listen.OutcomeOf(sequence(3, 2, 2), heard[:4]) }, spoilNothing)
}

// R5
func TestNilAndEmptyAreEqual(t *testing.T) {
	for _, x := range [][]int{nil, {}} {
		m := meter(1, 1, 0, 0)
		expect(t, x, shown(listen.GatedBlocks(m, x)), shown(x, api.OK))
		expect(t, x, shown(listen.LoudnessOf(m, x)), shown(api.Frac{}, api.ErrNone))
		expect(t, x, shown(listen.TruePeak(x)), shown(frac(0, 1), api.OK))
		expect(t, x, shown(listen.Headroom(x)), shown(api.Frac{}, api.ErrZero))
		expect(t, x, shown(listen.CheckRules(rules(x...))), shown(api.ErrShape))
		s := state(0, "012", x...)
		expect(t, x, shown(listen.CheckState(rules(0), s)), shown(api.OK))
		expect(t, x, shown(listen.Apply(rules(0), s, stop())), shown(state(-1, "012"), api.OK))
		expect(t, x, shown(listen.Apply(rules(0), s, answer(1))), shown(state(-1, "", 1), api.OK))
		for _, p := range [][][]int{nil, {}} {
			expect(t, p, shown(listen.Disagreements(p, x)), shown(0, api.OK))
			expect(t, p, shown(listen.BestRanking(p)), shown(x, 0, api.OK))
			expect(t, p, shown(listen.RankingBound(p)), shown(0, api.OK))
		}
		expect(t, x, shown(listen.RankingBound([][]int{x})), shown(0, api.ErrShape))
	}
	for _, l := range [][]api.ListenNote{nil, {}} {
		for _, e := range [][]api.ListenEdit{nil, {}} {
			expect(t, l, shown(listen.Moved(l, e)), shown(l, api.OK))
			expect(t, l, shown(listen.Moved(notes(note(1, 2)), e)), shown(notes(note(1, 2)), api.OK))
		}
	}
	for _, l := range [][]api.ListenEvent{nil, {}} {
		expect(t, l, shown(listen.Replay(rules(0), l)), shown(state(-1, ""), 0, api.OK))
	}
	for _, l := range [][]bool{nil, {}} {
		expect(t, l, shown(listen.OutcomeOf(sequence(1, 1, 1), l)), shown(api.ListenOutcome{}, api.ErrGap))
	}
}

// R2: as much as the limits permit
func TestGreatestArguments(t *testing.T) {
	var all []int
	for i := range 151 {
		all = append(all, i)
	}
	m := meter(50, 1, 1073676289, 100)
	expect(t, m, shown(listen.GatedBlocks(m, loudSignal())), shown(all, api.OK))
	expect(t, m, shown(listen.LoudnessOf(m, loudSignal())), shown(frac(1073676289, 1), api.OK))
	p := square(6)
	for i := range p {
		for j := range p {
			if i != j {
				p[i][j] = 1000
			}
		}
	}
	expect(t, "best", shown(listen.BestRanking(p)), shown([]int{0, 1, 2, 3, 4, 5}, 15000, api.OK))
	expect(t, "bound", shown(listen.RankingBound(p)), shown(15000, api.OK))
	expect(t, "disagreements", shown(listen.Disagreements(p, []int{5, 4, 3, 2, 1, 0})), shown(15000, api.OK))
	many := slices.Repeat(notes(note(maxPosition, maxPosition)), 20)
	expect(t, "moved", shown(listen.Moved(many, slices.Repeat(edits(insertion(0, maxPosition)), 20))), shown(slices.Repeat(notes(note(21*maxPosition, maxPosition)), 20), api.OK))
}
