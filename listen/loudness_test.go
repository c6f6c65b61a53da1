package listen_test

import (
	"math/big"
	"math/rand/v2"
	"testing"

	"lacquer/api"
	"lacquer/listen"
)

func meter(length, hop, gate, percent int) api.ListenMeter {
	return api.ListenMeter{Length: length, Hop: hop, Gate: gate, Percent: percent}
}

func metersWithErrors() []api.ListenMeter {
	var l []api.ListenMeter
	for _, n := range beyond(1, 50) {
		l = append(l, meter(n, 1, 0, 0), meter(n, n, 0, 0))
	}
	for _, length := range []int{1, 2, 50} {
		for _, n := range beyond(1, length) {
			l = append(l, meter(length, n, 0, 0))
		}
	}
	for _, n := range beyond(0, 1073676289) {
		l = append(l, meter(2, 1, n, 0))
	}
	for _, n := range beyond(0, 100) {
		l = append(l, meter(2, 1, 0, n))
	}
	return append(l, api.ListenMeter{})
}

// P9.1
func TestCheckMeter(t *testing.T) {
	for _, m := range []api.ListenMeter{meter(1, 1, 0, 0), meter(50, 1, 0, 0), meter(50, 50, 1073676289, 100), meter(2, 2, 0, 100), meter(2, 1, 4, 50), meter(49, 25, 1, 1)} {
		expect(t, m, shown(listen.CheckMeter(m)), shown(api.OK))
	}
	for _, m := range metersWithErrors() {
		expect(t, m, shown(listen.CheckMeter(m)), shown(api.ErrRange))
	}
}

// P9.1, example 1
func TestLoudness(t *testing.T) {
	x := []int{1, 1, 4, 6, 0}
	for _, v := range []struct {
		m      api.ListenMeter
		x      []int
		blocks []int
		want   api.Frac
		e      api.Errno
	}{
		{meter(2, 1, 4, 50), x, []int{2, 3}, frac(22, 1), api.OK},
		{meter(2, 1, 0, 0), x, []int{0, 1, 2, 3}, frac(107, 8), api.OK},
		{meter(2, 2, 0, 0), x, []int{0, 1}, frac(27, 2), api.OK},
		{meter(3, 2, 0, 0), x, []int{0, 1}, frac(35, 3), api.OK},
		{meter(5, 1, 0, 0), x, []int{0}, frac(54, 5), api.OK},
		{meter(5, 5, 0, 100), x, []int{0}, frac(54, 5), api.OK},
		// The gate: the energies 2, 17, 52 and 36.
		{meter(2, 1, 1, 0), x, []int{0, 1, 2, 3}, frac(107, 8), api.OK},
		{meter(2, 1, 2, 0), x, []int{1, 2, 3}, frac(35, 2), api.OK},
		{meter(2, 1, 8, 0), x, []int{1, 2, 3}, frac(35, 2), api.OK},
		{meter(2, 1, 9, 0), x, []int{2, 3}, frac(22, 1), api.OK},
		{meter(2, 1, 18, 0), x, []int{2, 3}, frac(22, 1), api.OK},
		{meter(2, 1, 19, 0), x, []int{2}, frac(26, 1), api.OK},
		{meter(2, 1, 26, 100), x, []int{2}, frac(26, 1), api.OK},
		{meter(2, 1, 27, 0), x, nil, api.Frac{}, api.ErrNone},
		{meter(2, 1, 1073676289, 0), x, nil, api.Frac{}, api.ErrNone},
		// Only the blocks that pass make the mean: 17 is 48.57 percent of 35.
		{meter(2, 1, 4, 48), x, []int{1, 2, 3}, frac(35, 2), api.OK},
		{meter(2, 1, 4, 49), x, []int{2, 3}, frac(22, 1), api.OK},
		{meter(2, 1, 4, 100), x, []int{2, 3}, frac(22, 1), api.OK},
		// The mean 30 of equal energies, and of 20 and 40.
		{meter(1, 1, 0, 100), []int{3, -3, 3}, []int{0, 1, 2}, frac(9, 1), api.OK},
		{meter(2, 2, 0, 66), []int{4, 2, 6, 2}, []int{0, 1}, frac(15, 1), api.OK},
		{meter(2, 2, 0, 67), []int{4, 2, 6, 2}, []int{1}, frac(20, 1), api.OK},
		{meter(2, 2, 0, 50), []int{1, 0, 1, 1, 2, -1}, []int{1, 2}, frac(7, 4), api.OK},
		{meter(1, 1, 0, 50), []int{1, 1, 3, 1}, []int{2}, frac(9, 1), api.OK},
		{meter(1, 1, 0, 50), []int{1, 0, 1, 2}, []int{0, 2, 3}, frac(2, 1), api.OK},
		// Silence has the mean 0, which it reaches.
		{meter(1, 1, 0, 100), []int{0, 0}, []int{0, 1}, frac(0, 1), api.OK},
		{meter(1, 1, 1, 0), []int{0, 0}, nil, api.Frac{}, api.ErrNone},
		{meter(2, 1, 0, 0), []int{9}, nil, api.Frac{}, api.ErrNone},
		{meter(1, 1, 0, 0), nil, nil, api.Frac{}, api.ErrNone},
		{meter(50, 1, 0, 0), make([]int, 49), nil, api.Frac{}, api.ErrNone},
		{meter(50, 1, 0, 0), make([]int, 50), []int{0}, frac(0, 1), api.OK},
		{meter(50, 50, 0, 0), make([]int, 149), []int{0, 1}, frac(0, 1), api.OK},
		{meter(50, 50, 1073676289, 100), loudSignal(), []int{0, 1, 2, 3}, frac(1073676289, 1), api.OK},
	} {
		expect(t, v, shown(listen.GatedBlocks(v.m, v.x)), shown(v.blocks, api.OK))
		expect(t, v, shown(listen.LoudnessOf(v.m, v.x)), shown(v.want, v.e))
	}
}

// meanSquare returns the mean of the squares of samples.
func meanSquare(x []int) *big.Rat {
	sum := new(big.Rat)
	for _, n := range x {
		sum.Add(sum, whole(n*n))
	}
	return sum.Quo(sum, whole(len(x)))
}

// gated returns the numbers of the blocks that pass, of those that count, and the loudness, by the definitions.
func gated(m api.ListenMeter, x []int) (passing, counting []int, loudness *big.Rat) {
	var blocks [][]int
	for i := 0; i*m.Hop+m.Length <= len(x); i++ {
		blocks = append(blocks, x[i*m.Hop:i*m.Hop+m.Length])
	}
	mean := new(big.Rat)
	for i, b := range blocks {
		if meanSquare(b).Cmp(whole(m.Gate)) >= 0 {
			passing = append(passing, i)
			mean.Add(mean, meanSquare(b))
		}
	}
	if len(passing) == 0 {
		return nil, nil, nil
	}
	mean.Quo(mean, whole(len(passing)))
	mean.Mul(mean, quotient(m.Percent, 100))
	var all []int
	for _, i := range passing {
		if meanSquare(blocks[i]).Cmp(mean) >= 0 {
			counting = append(counting, i)
			all = append(all, blocks[i]...)
		}
	}
	return passing, counting, meanSquare(all)
}

func someMeter(d *rand.Rand) api.ListenMeter {
	length := between(d, 1, 5)
	if d.IntN(4) == 0 {
		length = between(d, 1, 50)
	}
	return meter(length, between(d, 1, length), d.IntN(60), []int{0, 50, 100, d.IntN(101)}[d.IntN(4)])
}

// P9.1, P9.9
func TestSomeLoudness(t *testing.T) {
	d := dice(1)
	for range 3000 {
		m, x := someMeter(d), someSignal(d, d.IntN(20), 10)
		if d.IntN(4) == 0 {
			x = someSignal(d, d.IntN(201), maxSample)
			m.Gate *= 10000000
		}
		what := shown(m, x)
		passing, counting, loudness := gated(m, x)
		expect(t, what, shown(listen.GatedBlocks(m, x)), shown(counting, api.OK))
		if len(counting) == 0 {
			expect(t, what, shown(listen.LoudnessOf(m, x)), shown(api.Frac{}, api.ErrNone))
		} else {
			expect(t, what, shown(listen.LoudnessOf(m, x)), shown(lowest(loudness), api.OK))
		}
		m.Percent = 0
		expect(t, what, shown(listen.GatedBlocks(m, x)), shown(passing, api.OK))
		opposite := make([]int, len(x))
		for i, n := range x {
			opposite[i] = -n
		}
		expect(t, what, shown(listen.LoudnessOf(m, opposite)), shown(listen.LoudnessOf(m, x)))
	}
}

// P9.9
func TestAllBlocksCount(t *testing.T) {
	d := dice(2)
	for range 300 {
		m, x := someMeter(d), someSignal(d, d.IntN(100), 5)
		m.Gate, m.Percent = 0, 0
		var all []int
		for i := 0; i*m.Hop+m.Length <= len(x); i++ {
			all = append(all, i)
		}
		expect(t, m, shown(listen.GatedBlocks(m, x)), shown(all, api.OK))
	}
}

// P9.1
func TestErrorsOfLoudness(t *testing.T) {
	check := func(m api.ListenMeter, x []int, want api.Errno) {
		t.Helper()
		expect(t, m, shown(listen.GatedBlocks(m, x)), shown([]int{}, want))
		expect(t, m, shown(listen.LoudnessOf(m, x)), shown(api.Frac{}, want))
	}
	for _, v := range signalsWithErrors() {
		check(meter(2, 1, 0, 0), v.x, v.e)
		check(meter(50, 50, 1073676289, 100), v.x, v.e)
		// Of several errors the first one.
		check(meter(0, 1, 0, 0), v.x, api.ErrRange)
	}
	for _, m := range metersWithErrors() {
		check(m, nil, api.ErrRange)
		check(m, make([]int, 201), api.ErrRange)
	}
}
