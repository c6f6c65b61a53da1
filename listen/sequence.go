package listen

import "lacquer/api"

// CheckTest returns the error of a sequential test (P9.4).
func CheckTest(t api.ListenTest) api.Errno {
	return firstError(
		from(1, api.MaxListenTrials)(t.Trials),
		from(1, t.Trials)(t.Upper),
		from(1, t.Trials)(t.Lower))
}

// OutcomeOf returns the outcome of a sequential test, and how many answers it used (P9.4).
func OutcomeOf(t api.ListenTest, answers []bool) (api.ListenOutcome, api.Errno) {
	if e := firstError(CheckTest(t), when(len(answers) > api.MaxListenEvents, api.ErrLarge)); e != api.OK {
		return api.ListenOutcome{}, e
	}
	lead := 0
	for i, isRight := range answers {
		if isRight {
			lead++
		} else {
			lead--
		}
		if kind, hasEnded := outcomeAt(t, i+1, lead); hasEnded {
			return api.ListenOutcome{Kind: kind, Used: i + 1}, api.OK
		}
	}
	return api.ListenOutcome{}, api.ErrGap
}

// ChancesOf returns the probabilities of all outcomes for somebody who guesses (P9.4).
func ChancesOf(t api.ListenTest) ([3]api.Frac, api.Errno) {
	if e := CheckTest(t); e != api.OK {
		return [3]api.Frac{}, e
	}
	var chances [3]api.Frac
	for kind, ways := range waysTo(t) {
		chances[kind] = fractionOf(ways, 1<<t.Trials)
	}
	return chances, api.OK
}

// outcomeAt returns the outcome with which a test ends after so many answers, if it does. The lead is how many more right than wrong answers there are.
func outcomeAt(t api.ListenTest, used, lead int) (kind int, hasEnded bool) {
	switch {
	case lead == t.Upper:
		return api.ListenHeard, true
	case lead == -t.Lower:
		return api.ListenNotHeard, true
	}
	return api.ListenUndecided, used == t.Trials
}

// waysTo returns how many sequences of answers, of 2^Trials, lead to each outcome.
func waysTo(t api.ListenTest) [api.ListenOutcomes]int {
	var ways [api.ListenOutcomes]int
	// The sequences in which the test has not ended, counted by their leads.
	open := map[int]int{0: 1}
	for used := 1; used <= t.Trials; used++ {
		next := map[int]int{}
		for lead, count := range open {
			for _, after := range [...]int{lead + 1, lead - 1} {
				if kind, hasEnded := outcomeAt(t, used, after); hasEnded {
					// The answers that remain are any ones.
					ways[kind] += count << (t.Trials - used)
				} else {
					next[after] += count
				}
			}
		}
		open = next
	}
	return ways
}
