package listen_test

import (
	"math"
	"math/big"
	"math/bits"
	"testing"

	"lacquer/api"
	"lacquer/listen"
)

// tail returns the tail by binomial coefficients.
func tail(trials, right int) *big.Rat {
	sum := new(big.Int)
	for k := right; k <= trials; k++ {
		sum.Add(sum, new(big.Int).Binomial(int64(trials), int64(k)))
	}
	return new(big.Rat).SetFrac(sum, new(big.Int).Lsh(big.NewInt(1), uint(trials)))
}

// P9.3, example 4
func TestTailOf(t *testing.T) {
	for _, v := range []struct {
		trials, right int
		want          api.Frac
	}{
		{5, 4, frac(3, 16)}, {5, 5, frac(1, 32)}, {5, 0, frac(1, 1)}, {5, 1, frac(31, 32)}, {5, 3, frac(1, 2)},
		{0, 0, frac(1, 1)}, {1, 0, frac(1, 1)}, {1, 1, frac(1, 2)}, {2, 1, frac(3, 4)},
		{29, 29, frac(1, 536870912)}, {29, 28, frac(15, 268435456)}, {29, 15, frac(1, 2)}, {29, 1, frac(536870911, 536870912)}, {29, 0, frac(1, 1)},
	} {
		expect(t, v, shown(listen.TailOf(v.trials, v.right)), shown(v.want, api.OK))
	}
}

// P9.3
func TestTailsOfAllGuesses(t *testing.T) {
	for trials := range 13 {
		for right := range trials + 1 {
			count := 0
			for answers := range uint(1) << trials {
				if bits.OnesCount(answers) >= right {
					count++
				}
			}
			expect(t, []int{trials, right}, shown(listen.TailOf(trials, right)), shown(lowest(quotient(count, 1<<trials)), api.OK))
		}
	}
}

// P9.3, P9.11
func TestAllTails(t *testing.T) {
	for trials := range 30 {
		expect(t, trials, shown(listen.TailOf(trials, 0)), shown(frac(1, 1), api.OK))
		last := whole(1)
		for right := range trials + 1 {
			got, e := listen.TailOf(trials, right)
			expect(t, []int{trials, right}, shown(got, e), shown(lowest(tail(trials, right)), api.OK))
			now := quotient(got.Num, got.Den)
			if now.Cmp(last) > 0 {
				t.Error(trials, right, got)
			}
			last = now
		}
	}
}

// P9.3
func TestErrorsOfTails(t *testing.T) {
	for _, n := range beyond(0, 29) {
		for _, right := range []int{0, 1, -1, n, math.MaxInt} {
			expect(t, n, shown(listen.TailOf(n, right)), shown(api.Frac{}, api.ErrRange))
		}
	}
	for _, trials := range []int{0, 1, 5, 29} {
		for _, n := range beyond(0, trials) {
			expect(t, n, shown(listen.TailOf(trials, n)), shown(api.Frac{}, api.ErrRange))
		}
	}
}

// P9.3, example 4
func TestMinimumRight(t *testing.T) {
	for _, v := range []struct {
		trials int
		level  api.Frac
		want   int
		e      api.Errno
	}{
		{5, frac(1, 20), 5, api.OK}, {4, frac(1, 20), 0, api.ErrNone},
		{5, frac(3, 16), 4, api.OK}, {5, frac(187499999, 1000000000), 5, api.OK}, {5, frac(187500001, 1000000000), 4, api.OK},
		{5, frac(1, 32), 5, api.OK}, {5, frac(1, 33), 0, api.ErrNone}, {5, frac(1, 1), 0, api.OK}, {5, frac(31, 32), 1, api.OK}, {5, frac(30, 31), 2, api.OK},
		{0, frac(1, 1), 0, api.OK}, {0, frac(999999999, 1000000000), 0, api.ErrNone}, {0, frac(0, 1), 0, api.ErrNone},
		{29, frac(0, 1), 0, api.ErrNone}, {29, frac(1, 536870912), 29, api.OK}, {29, frac(1, 536870913), 0, api.ErrNone}, {29, frac(1, 1000000000), 0, api.ErrNone}, {29, frac(999999999, 1000000000), 1, api.OK}, {29, frac(1, 1), 0, api.OK}, {29, frac(1, 2), 15, api.OK},
	} {
		expect(t, v, shown(listen.MinimumRight(v.trials, v.level)), shown(v.want, v.e))
	}
}

// P9.3
func TestSomeMinimumRights(t *testing.T) {
	d := dice(4)
	for range 3000 {
		trials := d.IntN(30)
		den := between(d, 1, []int{4, 100, 1000000000}[d.IntN(3)])
		level := quotient(between(d, 0, den), den)
		if d.IntN(3) == 0 {
			level = tail(trials, d.IntN(trials+1))
		}
		want, e := 0, api.OK
		for tail(trials, want).Cmp(level) > 0 && e == api.OK {
			want++
			if want > trials {
				want, e = 0, api.ErrNone
			}
		}
		expect(t, shown(trials, level), shown(listen.MinimumRight(trials, lowest(level))), shown(want, e))
	}
}

// P9.3
func TestErrorsOfLevels(t *testing.T) {
	for _, v := range []struct {
		e api.Errno
		l []api.Frac
	}{
		{api.ErrForm, []api.Frac{
			{}, frac(1, 0), frac(1, -2), frac(-1, -2), frac(0, -1), frac(2, 2), frac(2, 4), frac(6, 9), frac(0, 2), frac(0, 1000000000), frac(500000000, 1000000000),
			frac(-2, 4), frac(4, 2), frac(1, math.MinInt), frac(math.MinInt, math.MinInt), frac(math.MinInt, -1), frac(math.MaxInt, math.MaxInt), frac(math.MinInt, 2), frac(math.MinInt, 1<<62), frac(0, math.MaxInt), frac(2, 2000000000), frac(-1<<40, 1<<41),
		}},
		{api.ErrRange, []api.Frac{
			frac(-1, 1), frac(-1, 2), frac(2, 1), frac(3, 2), frac(21, 20), frac(1, 1000000001), frac(1000000000, 1000000001), frac(1, math.MaxInt), frac(-1, math.MaxInt), frac(math.MaxInt, 1), frac(math.MinInt, 1), frac(math.MinInt, 3), frac(math.MinInt, math.MaxInt), frac(math.MaxInt-1, math.MaxInt), frac(1000000001, 1000000000), frac(-1, 1000000000),
		}},
	} {
		for _, level := range v.l {
			for _, trials := range []int{0, 5, 29} {
				expect(t, level, shown(listen.MinimumRight(trials, level)), shown(0, v.e))
			}
		}
	}
	for _, n := range beyond(0, 29) {
		for _, level := range []api.Frac{frac(1, 2), frac(2, 2), {}} {
			expect(t, n, shown(listen.MinimumRight(n, level)), shown(0, api.ErrRange))
		}
	}
}
