package listen_test

import (
	"math/big"
	"testing"

	"lacquer/api"
	"lacquer/listen"
)

func sequence(trials, upper, lower int) api.ListenTest {
	return api.ListenTest{Trials: trials, Upper: upper, Lower: lower}
}

// answersOf returns the answers with this string of r (right) and w (wrong).
func answersOf(s string) []bool {
	var l []bool
	for i := range len(s) {
		l = append(l, s[i] == 'r')
	}
	return l
}

func testsWithErrors() []api.ListenTest {
	l := []api.ListenTest{{}}
	for _, n := range beyond(1, 29) {
		l = append(l, sequence(n, 1, 1), sequence(n, n, n))
	}
	for _, trials := range []int{1, 5, 29} {
		for _, n := range beyond(1, trials) {
			l = append(l, sequence(trials, n, 1), sequence(trials, 1, n), sequence(trials, trials, n), sequence(trials, n, trials))
		}
	}
	return l
}

// P9.4
func TestCheckTest(t *testing.T) {
	for _, v := range []api.ListenTest{sequence(1, 1, 1), sequence(29, 29, 29), sequence(29, 1, 29), sequence(29, 29, 1), sequence(3, 2, 2)} {
		expect(t, v, shown(listen.CheckTest(v)), shown(api.OK))
	}
	for _, v := range testsWithErrors() {
		expect(t, v, shown(listen.CheckTest(v)), shown(api.ErrRange))
	}
}

// P9.4, example 5
func TestOutcomeOf(t *testing.T) {
	for _, v := range []struct {
		test    api.ListenTest
		answers string
		kind    int
		used    int
		e       api.Errno
	}{
		{sequence(3, 2, 2), "rr", api.ListenHeard, 2, api.OK},
		{sequence(3, 2, 2), "rrw", api.ListenHeard, 2, api.OK},
		{sequence(3, 2, 2), "ww", api.ListenNotHeard, 2, api.OK},
		{sequence(3, 2, 2), "wwrrr", api.ListenNotHeard, 2, api.OK},
		{sequence(3, 2, 2), "rwr", api.ListenUndecided, 3, api.OK},
		{sequence(3, 2, 2), "wrwrr", api.ListenUndecided, 3, api.OK},
		{sequence(3, 2, 2), "rw", 0, 0, api.ErrGap},
		{sequence(3, 2, 2), "", 0, 0, api.ErrGap},
		{sequence(9, 1, 9), "r", api.ListenHeard, 1, api.OK},
		{sequence(9, 1, 9), "wrr", api.ListenHeard, 3, api.OK},
		{sequence(9, 9, 1), "w", api.ListenNotHeard, 1, api.OK},
		{sequence(9, 9, 1), "rrwww", api.ListenNotHeard, 5, api.OK},
		{sequence(1, 1, 1), "r", api.ListenHeard, 1, api.OK},
		{sequence(1, 1, 1), "w", api.ListenNotHeard, 1, api.OK},
		// The last answer may decide.
		{sequence(3, 3, 3), "rrr", api.ListenHeard, 3, api.OK},
		{sequence(3, 3, 3), "www", api.ListenNotHeard, 3, api.OK},
		{sequence(3, 1, 3), "wwr", api.ListenUndecided, 3, api.OK},
		{sequence(4, 2, 4), "rwrr", api.ListenHeard, 4, api.OK},
		{sequence(4, 2, 4), "rwrw", api.ListenUndecided, 4, api.OK},
		{sequence(4, 2, 4), "rwr", 0, 0, api.ErrGap},
	} {
		expect(t, v, shown(listen.OutcomeOf(v.test, answersOf(v.answers))), shown(api.ListenOutcome{Kind: v.kind, Used: v.used}, v.e))
	}
	// As many answers as the limits permit.
	long := make([]bool, 200)
	expect(t, "long", shown(listen.OutcomeOf(sequence(29, 29, 29), long)), shown(api.ListenOutcome{Kind: api.ListenNotHeard, Used: 29}, api.OK))
	for i := range long {
		long[i] = i%2 == 0
	}
	expect(t, "long", shown(listen.OutcomeOf(sequence(29, 2, 2), long)), shown(api.ListenOutcome{Kind: api.ListenUndecided, Used: 29}, api.OK))
	expect(t, "long", shown(listen.OutcomeOf(sequence(29, 2, 2), long[:28])), shown(api.ListenOutcome{}, api.ErrGap))
}

// P9.4
func TestErrorsOfOutcomes(t *testing.T) {
	for _, count := range []int{201, 100000} {
		expect(t, count, shown(listen.OutcomeOf(sequence(1, 1, 1), make([]bool, count))), shown(api.ListenOutcome{}, api.ErrLarge))
	}
	for _, v := range testsWithErrors() {
		for _, count := range []int{0, 1, 30, 201} {
			expect(t, v, shown(listen.OutcomeOf(v, make([]bool, count))), shown(api.ListenOutcome{}, api.ErrRange))
		}
		expect(t, v, shown(listen.ChancesOf(v)), shown([3]api.Frac{}, api.ErrRange))
	}
}

// endOf returns the outcome of a test by its definition, and how many of so many answers it uses.
func endOf(v api.ListenTest, answers []bool) (kind, used int) {
	for used = 1; used <= v.Trials; used++ {
		right := 0
		for _, isRight := range answers[:used] {
			if isRight {
				right++
			}
		}
		if right-(used-right) >= v.Upper {
			return api.ListenHeard, used
		}
		if (used-right)-right >= v.Lower {
			return api.ListenNotHeard, used
		}
	}
	return api.ListenUndecided, v.Trials
}

// P9.4, P9.11: all answers of all small tests
func TestAllAnswers(t *testing.T) {
	for trials := 1; trials <= 8; trials++ {
		for upper := 1; upper <= trials; upper++ {
			for lower := 1; lower <= trials; lower++ {
				v := sequence(trials, upper, lower)
				var counts [3]int
				for number := range 1 << trials {
					answers := make([]bool, trials)
					for i := range answers {
						answers[i] = number>>i&1 == 1
					}
					kind, used := endOf(v, answers)
					counts[kind]++
					outcome := api.ListenOutcome{Kind: kind, Used: used}
					expect(t, v, shown(listen.OutcomeOf(v, answers)), shown(outcome, api.OK))
					expect(t, v, shown(listen.OutcomeOf(v, answers[:used])), shown(outcome, api.OK))
					expect(t, v, shown(listen.OutcomeOf(v, answers[:used-1])), shown(api.ListenOutcome{}, api.ErrGap))
				}
				var want [3]api.Frac
				for i, count := range counts {
					want[i] = lowest(quotient(count, 1<<trials))
				}
				expect(t, v, shown(listen.ChancesOf(v)), shown(want, api.OK))
			}
		}
	}
}

// chance returns the probability that a test ends with an outcome, after so many answers with this lead.
func chance(v api.ListenTest, kind, used, lead int, known map[[2]int]*big.Rat) *big.Rat {
	ends := map[bool]*big.Rat{true: whole(1), false: whole(0)}
	switch {
	case lead >= v.Upper:
		return ends[kind == api.ListenHeard]
	case -lead >= v.Lower:
		return ends[kind == api.ListenNotHeard]
	case used == v.Trials:
		return ends[kind == api.ListenUndecided]
	}
	if r := known[[2]int{used, lead}]; r != nil {
		return r
	}
	r := new(big.Rat).Add(chance(v, kind, used+1, lead+1, known), chance(v, kind, used+1, lead-1, known))
	r.Mul(r, quotient(1, 2))
	known[[2]int{used, lead}] = r
	return r
}

// P9.4, P9.11, example 5
func TestChancesOf(t *testing.T) {
	expect(t, "example", shown(listen.ChancesOf(sequence(3, 2, 2))), shown([3]api.Frac{frac(1, 4), frac(1, 4), frac(1, 2)}, api.OK))
	expect(t, "one", shown(listen.ChancesOf(sequence(1, 1, 1))), shown([3]api.Frac{frac(1, 2), frac(1, 2), frac(0, 1)}, api.OK))
	expect(t, "all", shown(listen.ChancesOf(sequence(29, 29, 29))), shown([3]api.Frac{frac(1, 536870912), frac(1, 536870912), frac(268435455, 268435456)}, api.OK))
	d := dice(5)
	for range 300 {
		trials := between(d, 1, 29)
		v := sequence(trials, between(d, 1, trials), between(d, 1, trials))
		if d.IntN(3) == 0 {
			v.Lower = v.Upper
		}
		var want [3]api.Frac
		sum := new(big.Rat)
		for kind := range want {
			r := chance(v, kind, 0, 0, map[[2]int]*big.Rat{})
			sum.Add(sum, r)
			want[kind] = lowest(r)
		}
		got, e := listen.ChancesOf(v)
		expect(t, v, shown(got, e), shown(want, api.OK))
		if sum.Cmp(whole(1)) != 0 || v.Upper == v.Lower && got[0] != got[1] {
			t.Error(v, got)
		}
	}
}
