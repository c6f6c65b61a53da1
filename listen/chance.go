package listen

import "lacquer/api"

// TailOf returns the probability that somebody who guesses has at least so many right answers (P9.3).
func TailOf(trials, right int) (api.Frac, api.Errno) {
	if e := firstError(checkTrials(trials), from(0, trials)(right)); e != api.OK {
		return api.Frac{}, e
	}
	return fractionOf(waysFrom(trials, right), 1<<trials), api.OK
}

// MinimumRight returns the minimum number of right answers whose tail is at most a level (P9.3).
func MinimumRight(trials int, level api.Frac) (int, api.Errno) {
	if e := firstError(checkTrials(trials), checkLevel(level)); e != api.OK {
		return 0, e
	}
	for right := range trials + 1 {
		if waysFrom(trials, right)*level.Den <= level.Num<<trials {
			return right, api.OK
		}
	}
	return 0, api.ErrNone
}

func checkTrials(trials int) api.Errno {
	return from(0, api.MaxListenTrials)(trials)
}

func checkLevel(level api.Frac) api.Errno {
	return firstError(
		when(!isLowest(level), api.ErrForm),
		from(0, level.Den)(level.Num),
		when(level.Den > api.MaxPart, api.ErrRange))
}

// waysFrom returns how many sequences of answers, of 2^trials, have at least so many right ones.
func waysFrom(trials, right int) int {
	ways, sum := 1, 0
	for k := trials; k >= right; k-- {
		sum += ways
		// From the ways of k right answers to those of k - 1.
		ways = ways * k / (trials - k + 1)
	}
	return sum
}
