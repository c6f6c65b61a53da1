package resample_test

import (
	"slices"
	"testing"

	"lacquer/api"
	"lacquer/resample"
)

// P4.1
func TestCheckRules(t *testing.T) {
	many := api.ResampleRules{Kind: api.ResampleMap, Degree: 3, Step: 1}
	for i := range 20 {
		many.Map.Nodes = append(many.Map.Nodes, api.SpeedNode{Position: i, Time: 2 * i})
	}
	good := []api.ResampleRules{
		ratio(1, 1, 1), ratio(3, 1, 1), ratio(1, 1000, 1), ratio(1, 1, 1000), ratio(3, 1000, 1000),
		mapped(1, 5, 0, 0, 2, 20, 3, 40), mapped(3, 1, 0, 0, 1, 1), mapped(3, maxTick, 0, 0, 1000000, maxTick), many,
		{Degree: 1, Num: 1, Den: 1, Map: api.SpeedMap{Nodes: []api.SpeedNode{}}},
	}
	for _, r := range append(good, someRules(1)...) {
		expect(t, r, shown(resample.CheckRules(r)), shown(api.OK))
	}
	for _, bad := range rulesWithErrors() {
		expect(t, bad, shown(resample.CheckRules(bad.rules)), shown(bad.e))
	}
}

// P4.1, examples 3 to 5, and the edge cases
func TestPositionsOf(t *testing.T) {
	for _, x := range []struct {
		r     api.ResampleRules
		count int
		want  []int
	}{
		{ratio(1, 1, 2), 4, []int{0, 32, 64, 96, 128, 160, 192}},
		{ratio(3, 3, 2), 4, []int{0, 96, 192}},
		{mapped(1, 5, 0, 0, 2, 20, 3, 40), 4, []int{0, 32, 64, 96, 128, 144, 160, 176, 192}},
		{mapped(1, 7, 0, 0, 2, 20, 3, 40), 4, []int{0, 44, 89, 131, 153, 176}},
		{mapped(1, 5, 0, 7, 2, 27, 3, 47), 3, []int{0, 32, 64, 96, 128}},
		{ratio(1, 1, 1), 4, []int{0, 64, 128, 192}},
		{ratio(1, 3, 1), 4, []int{0, 192}},
		{ratio(1, 4, 1), 4, []int{0}},
		{ratio(1, 2, 1), 4, []int{0, 128}},
		{ratio(1, 1, 3), 2, []int{0, 21, 42, 64}},
		{ratio(1, 64, 65), 2, []int{0, 63}},
		{ratio(1, 64, 63), 3, []int{0, 65}},
		{ratio(1, 1, 1), 1, []int{0}},
		{ratio(1, 1000, 1), 400, []int{0}},
		{ratio(1, 399, 1), 400, []int{0, 25536}},
		{ratio(1, 1, 1), 0, nil},
		{ratio(1, 1, 1000), 0, nil},
		{mapped(1, 5, 0, 0, 2, 20, 3, 40), 0, nil},
		{mapped(1, 1, 0, 0, 1, maxTick), 0, nil},
		// The map begins behind the first sample, at the last one, or behind it.
		{mapped(1, 5, 2, 0, 4, 10), 5, []int{128, 192, 256}},
		{mapped(1, 5, 2, 0, 4, 10), 4, []int{128, 192}},
		{mapped(1, 5, 2, 0, 4, 10), 3, []int{128}},
		{mapped(1, 5, 2, 0, 4, 10), 2, nil},
		{mapped(1, 1, 2, 0, 4, maxTick), 2, nil},
		// The last time is that of the last node, or lies before it.
		{mapped(1, 6, 0, 0, 2, 12), 400, []int{0, 64, 128}},
		{mapped(1, 7, 0, 0, 2, 12), 400, []int{0, 74}},
		{mapped(1, 12, 0, 0, 2, 12), 400, []int{0, 128}},
		{mapped(1, 13, 0, 0, 2, 12), 400, []int{0}},
		{mapped(1, maxTick, 0, 0, 2, maxTick), 400, []int{0, 128}},
		{mapped(1, maxTick, 0, maxTick-1, 2, maxTick), 400, []int{0}},
		// A map that is so steep that outputs have the same position.
		{mapped(1, 30, 0, 0, 1, 4000, 2, 4010), 1, []int{0, 0, 0}},
		{mapped(1, 1, 0, 0, 1, 100), 1, []int{0, 0}},
	} {
		expect(t, x, shown(resample.PositionsOf(x.r, x.count)), shown(x.want, api.OK))
	}
}

// P4.1: all rules, by the document's definitions
func TestPositionsOfSomeRules(t *testing.T) {
	d := dice(2)
	large := 0
	for _, r := range someRules(3) {
		for _, count := range []int{0, 1, between(d, 2, 30), between(d, 2, 400)} {
			want := positionsOf(r, count)
			if len(want) > 2000 {
				large++
				expect(t, r, shown(resample.PositionsOf(r, count)), shown([]int{}, api.ErrLarge))
			} else {
				expect(t, r, shown(resample.PositionsOf(r, count)), shown(want, api.OK))
			}
		}
	}
	if large < 50 {
		t.Error("too few rules have too many outputs:", large)
	}
}

// P4.1: at most 2000 outputs
func TestManyPositions(t *testing.T) {
	for _, x := range []struct {
		r          api.ResampleRules
		count, all int
	}{
		{ratio(1, 1, 992), 3, 2000},
		{mapped(1, 1, 0, 0, 100, 1999), 101, 2000},
		{mapped(1, 1, 0, 0, 100, 1999), 400, 2000},
		{mapped(1, 1, 0, 0, 100, 2000), 100, 1981},
		{ratio(1, 1, 5), 400, 1996},
	} {
		l, e := resample.PositionsOf(x.r, x.count)
		expect(t, x, shown(len(l), e), shown(x.all, api.OK))
		y, e := resample.Resampled(x.r, make([]int, x.count))
		expect(t, x, shown(len(y), e), shown(x.all, api.OK))
	}
	for _, x := range []struct {
		r     api.ResampleRules
		count int
	}{
		{ratio(1, 1, 993), 3},
		{ratio(1, 1, 1000), 400},
		{ratio(1, 1, 6), 400},
		{mapped(1, 1, 0, 0, 100, 2000), 101},
		{mapped(1, 1, 0, 0, 1, maxTick), 1},
		{mapped(3, 1, 0, 0, 1000000, maxTick), 400},
	} {
		expect(t, x, shown(resample.PositionsOf(x.r, x.count)), shown([]int{}, api.ErrLarge))
		expect(t, x, shown(resample.Resampled(x.r, make([]int, x.count))), shown([]int{}, api.ErrLarge))
	}
}

// P4.1
func TestPositionsOfErrors(t *testing.T) {
	for _, bad := range rulesWithErrors() {
		for _, count := range append(beyond(0, 400), 0, 4, 400) {
			expect(t, bad, shown(resample.PositionsOf(bad.rules, count)), shown([]int{}, bad.e))
		}
	}
	for _, count := range beyond(0, 400) {
		for _, r := range []api.ResampleRules{ratio(1, 1, 1), ratio(1, 1, 1000), mapped(1, 1, 0, 0, 1, maxTick)} {
			expect(t, count, shown(resample.PositionsOf(r, count)), shown([]int{}, api.ErrRange))
		}
	}
}

// P4.2, examples 3 to 5, and the edge cases
func TestResampled(t *testing.T) {
	x := []int{0, 10, 20, 40}
	for _, v := range []struct {
		r    api.ResampleRules
		x, y []int
	}{
		{ratio(1, 1, 2), x, []int{0, 5, 10, 15, 20, 30, 40}},
		{ratio(1, 2, 1), []int{0, 5, 10, 15, 20, 30, 40}, x},
		{ratio(1, 3, 2), x, []int{0, 15, 40}},
		{ratio(3, 3, 2), x, []int{0, 14, 40}},
		{mapped(1, 5, 0, 0, 2, 20, 3, 40), x, []int{0, 5, 10, 15, 20, 25, 30, 35, 40}},
		{mapped(1, 5, 0, 0, 2, 20, 9, 30), x, []int{0, 5, 10, 15, 20}},
		{ratio(1, 1, 1), x, x},
		{ratio(3, 1, 1), x, x},
		{ratio(1, 1, 1), nil, nil},
		{ratio(3, 1, 1000), nil, nil},
		{mapped(3, 5, 0, 0, 2, 20), nil, nil},
		{ratio(3, 1, 3), []int{7}, []int{7}},
		{ratio(1, 2, 1), x, []int{0, 20}},
		{ratio(1, 4, 1), x, []int{0}},
		// Halves are rounded upwards.
		{ratio(1, 1, 2), []int{0, 1, 0, -1, 0, 3, 0, -3, 0}, []int{0, 1, 1, 1, 0, 0, -1, 0, 0, 2, 3, 2, 0, -1, -3, -1, 0}},
		{ratio(1, 1, 4), []int{0, 1, 0, -1, 0}, []int{0, 0, 1, 1, 1, 1, 1, 0, 0, 0, 0, -1, -1, -1, 0, 0, 0}},
		// Samples are limited.
		{ratio(3, 1, 2), []int{-32767, 32767, 32767, -32767}, []int{-32767, 0, 32767, 32767, 32767, 0, -32767}},
		{ratio(3, 1, 2), []int{32767, -32767, -32767, 32767}, []int{32767, 0, -32767, -32767, -32767, 0, 32767}},
		{mapped(1, 30, 0, 0, 1, 4000, 2, 4010), []int{9}, []int{9, 9, 9}},
	} {
		expect(t, v, shown(resample.Resampled(v.r, v.x)), shown(v.y, api.OK))
	}
}

// P4.2: all rules, by the document's definitions
func TestResampledBySomeRules(t *testing.T) {
	d := dice(4)
	outputs := 0
	for _, r := range someRules(5) {
		x := someNumbers(d, between(d, 0, 25), []int{5, 100, maxSample}[d.IntN(3)])
		positions := positionsOf(r, len(x))
		if len(positions) > 2000 {
			expect(t, r, shown(resample.Resampled(r, x)), shown([]int{}, api.ErrLarge))
			continue
		}
		var want []int
		for _, position := range positions {
			want = append(want, outputAt(r.Degree, x, position))
		}
		outputs += len(want)
		expect(t, r, shown(resample.Resampled(r, x)), shown(want, api.OK))
	}
	if outputs < 5000 {
		t.Error("too few outputs:", outputs)
	}
}

// P4.2
func TestResampledErrors(t *testing.T) {
	for e, signals := range signalsWithErrors(maxSample) {
		for _, x := range signals {
			for _, r := range []api.ResampleRules{ratio(1, 1, 1), ratio(3, 1, 1000), mapped(1, 1, 0, 0, 1, maxTick), mapped(3, 5, 500, 0, 502, 20)} {
				expect(t, r, shown(resample.Resampled(r, x)), shown([]int{}, e))
			}
			for _, bad := range rulesWithErrors() {
				expect(t, bad, shown(resample.Resampled(bad.rules, x)), shown([]int{}, bad.e))
			}
		}
	}
	for _, bad := range rulesWithErrors() {
		expect(t, bad, shown(resample.Resampled(bad.rules, nil)), shown([]int{}, bad.e))
		expect(t, bad, shown(resample.Resampled(bad.rules, make([]int, 400))), shown([]int{}, bad.e))
	}
}

// P4.9: there and back, and the ratio 1 to 1
func TestThereAndBack(t *testing.T) {
	d := dice(6)
	for _, n := range []int{1, 2, 4, 8, 16, 32, 64} {
		for _, degree := range []int{1, 3} {
			for range 30 {
				x := someNumbers(d, between(d, 0, 399/n+1), maxSample)
				there := resampled(t, ratio(degree, 1, n), x)
				if len(x) > 0 {
					expect(t, n, shown(len(there)), shown(n*(len(x)-1)+1))
				}
				expect(t, n, shown(resampled(t, ratio(degree, n, 1), there)), shown(x))
			}
		}
	}
}

// P4.10: with the degree 1 outputs lie between their samples.
func TestBetweenSamples(t *testing.T) {
	d := dice(7)
	outputs := 0
	for _, r := range someRules(8) {
		r.Degree = 1
		x := someNumbers(d, between(d, 1, 30), maxSample)
		y, e := resample.Resampled(r, x)
		positions, f := resample.PositionsOf(r, len(x))
		expect(t, r, shown(len(y), e), shown(len(positions), f))
		outputs += len(y)
		for k, n := range y {
			pair := []int{sampleAt(x, positions[k]/64), sampleAt(x, positions[k]/64+1)}
			if n < slices.Min(pair) || n > slices.Max(pair) {
				t.Error(r, k, n, pair)
			}
		}
	}
	if outputs < 5000 {
		t.Error("too few outputs:", outputs)
	}
}
