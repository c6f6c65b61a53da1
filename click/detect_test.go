package click_test

import (
	"slices"
	"testing"

	"lacquer/api"
	"lacquer/click"
)

// P5.1
func TestCheckRules(t *testing.T) {
	for _, r := range []api.ClickRules{
		median(1, 5, 2, 4, 50), median(1, 0, 2, 1, 0), median(4, 131068, 8, 8, 100), median(2, 7, 3, 2, 1),
		curve(0, 2, 1, 0), curve(131068, 8, 8, 100), curve(100, 2, 4, 20),
	} {
		expect(t, r, shown(click.CheckRules(r)), shown(api.OK))
	}
	for _, bad := range rulesWithErrors() {
		expect(t, bad, shown(click.CheckRules(bad.rules)), shown(bad.e))
	}
}

// P5.2 and P5.4: the errors of the rules come before those of the signal.
func TestErrorsOfRulesAndSignals(t *testing.T) {
	check := func(r api.ClickRules, x []int, e api.Errno) {
		t.Helper()
		expect(t, r, shown(click.Deviations(r, x)), shown([]int{}, e))
		expect(t, r, shown(click.Clicks(r, x)), shown([]api.ClickRun{}, e))
		expect(t, r, shown(click.Passages(r, x)), shown([]api.ClickRun{}, e))
		expect(t, r, shown(click.Mended(r, x)), shown([]int{}, e))
	}
	for _, bad := range rulesWithErrors() {
		check(bad.rules, nil, bad.e)
		check(bad.rules, []int{0, 0, 9, 0, 0}, bad.e)
		check(bad.rules, make([]int, 201), bad.e)
		check(bad.rules, []int{maxSample + 1}, bad.e)
	}
	for _, bad := range signalsWithErrors() {
		check(median(4, 0, 2, 8, 0), bad.x, bad.e)
		check(curve(0, 2, 8, 0), bad.x, bad.e)
	}
}

// P5.2, examples 1 and 2
func TestDeviations(t *testing.T) {
	for _, v := range []struct {
		r       api.ClickRules
		x, want []int
	}{
		{median(1, 5, 2, 4, 50), []int{0, 0, 9, 0, 0}, []int{0, 0, 9, 0, 0}},
		{curve(1, 2, 4, 50), []int{0, 0, 9, 0, 0}, []int{0, 9, 18, 9, 0}},
		{median(1, 5, 2, 4, 50), nil, nil},
		{curve(1, 2, 4, 50), nil, nil},
		{median(4, 5, 2, 4, 50), []int{-8}, []int{0}},
		{curve(1, 2, 4, 50), []int{-8}, []int{0}},
		// The first and the last sample have no second difference.
		{curve(1, 2, 4, 50), []int{-8, 100}, []int{0, 0}},
		{curve(1, 2, 4, 50), []int{9, 0, 0, 0, -9}, []int{0, 9, 0, 9, 0}},
		{curve(1, 2, 4, 50), []int{1, 2, 3, 5, 8, -3}, []int{0, 0, 1, 1, 14, 0}},
		// Of two samples in the middle the lower one counts.
		{median(1, 5, 2, 4, 50), []int{3, 10}, []int{0, 7}},
		{median(1, 5, 2, 4, 50), []int{10, 3}, []int{7, 0}},
		{median(2, 5, 2, 4, 50), []int{1, 2, 4, 8}, []int{1, 0, 2, 4}},
		{median(2, 5, 2, 4, 50), []int{-8, -1, -2, -4, 5}, []int{6, 3, 0, 2, 7}},
		{median(3, 5, 2, 4, 50), []int{5, 1, 4, 2, 3, 9, 8}, []int{3, 2, 1, 2, 0, 5, 5}},
		{median(4, 5, 2, 4, 50), []int{maxSample, -maxSample, -maxSample}, []int{2 * maxSample, 0, 0}},
		{curve(1, 2, 4, 50), []int{maxSample, -maxSample, maxSample}, []int{0, 4 * maxSample, 0}},
	} {
		expect(t, v, shown(click.Deviations(v.r, v.x)), shown(v.want, api.OK))
	}
}

// deviationAt is the document's definition.
func deviationAt(r api.ClickRules, x []int, i int) int {
	difference := 0
	if r.Kind == api.ClickMedian {
		var near []int
		for j, sample := range x {
			if i-r.Window <= j && j <= i+r.Window {
				near = append(near, sample)
			}
		}
		slices.Sort(near)
		middle := near[len(near)/2]
		if len(near)%2 == 0 {
			middle = near[len(near)/2-1]
		}
		difference = x[i] - middle
	} else if i != 0 && i != len(x)-1 {
		difference = x[i-1] - 2*x[i] + x[i+1]
	}
	return max(difference, -difference)
}

// runsOf is the document's definition: all connected samples are in the same run.
func runsOf(r api.ClickRules, deviations []int) []api.ClickRun {
	var l []api.ClickRun
	for i, deviation := range deviations {
		if deviation <= r.Threshold {
			continue
		}
		last := len(l) - 1
		if last < 0 || i-l[last].Run.Hi > r.Join+1 {
			l = append(l, api.ClickRun{Run: api.Range{Lo: i, Hi: i}, Peak: i, Deviation: deviation})
			continue
		}
		l[last].Run.Hi = i
		if deviation > l[last].Deviation {
			l[last].Peak, l[last].Deviation = i, deviation
		}
	}
	return l
}

// P5.2
func TestDeviationsByDefinition(t *testing.T) {
	d := dice(1)
	for n := range 600 {
		r := someRules(d)
		x := crackling(d, between(d, 1, 200))
		if n%3 == 0 {
			x = someNumbers(d, between(d, 1, 200), maxSample)
		}
		var want []int
		for i := range x {
			want = append(want, deviationAt(r, x, i))
		}
		expect(t, r, shown(click.Deviations(r, x)), shown(want, api.OK))
	}
}

// P5.2, example 2
func TestClicks(t *testing.T) {
	one := func(lo, hi, peak, deviation int) []api.ClickRun {
		return []api.ClickRun{{Run: api.Range{Lo: lo, Hi: hi}, Peak: peak, Deviation: deviation}}
	}
	for _, v := range []struct {
		r                api.ClickRules
		x                []int
		clicks, passages []api.ClickRun
	}{
		{median(1, 5, 2, 4, 50), []int{0, 0, 9, 0, 0}, one(2, 2, 2, 9), nil},
		// A deviation is suspicious if it is greater than the threshold.
		{median(1, 9, 2, 4, 50), []int{0, 0, 9, 0, 0}, nil, nil},
		{median(1, 8, 2, 4, 50), []int{0, 0, 9, 0, 0}, one(2, 2, 2, 9), nil},
		{median(1, 0, 2, 4, 50), []int{0, 0, -1, 0, 0}, one(2, 2, 2, 1), nil},
		{curve(0, 2, 4, 50), []int{0, 0, 1, 0, 0}, one(1, 3, 2, 2), nil},
		{curve(131068, 2, 4, 50), []int{maxSample, -maxSample, maxSample}, nil, nil},
		{curve(131067, 2, 4, 50), []int{maxSample, -maxSample, maxSample}, one(1, 1, 1, 131068), nil},
		// A click has at most Most samples.
		{curve(0, 2, 3, 50), []int{0, 0, 1, 0, 0}, one(1, 3, 2, 2), nil},
		{curve(0, 2, 2, 50), []int{0, 0, 1, 0, 0}, nil, one(1, 3, 2, 2)},
		// Exactly Join samples lie between two samples of a run, or one more.
		{median(1, 5, 2, 4, 50), []int{0, 9, 0, 0, 9, 0}, one(1, 4, 1, 9), nil},
		{median(1, 5, 2, 3, 50), []int{0, 9, 0, 0, 9, 0}, nil, one(1, 4, 1, 9)},
		{median(1, 5, 2, 4, 50), []int{0, 9, 0, 0, 0, 9, 0}, append(one(1, 1, 1, 9), one(5, 5, 5, 9)...), nil},
		{median(1, 5, 3, 5, 50), []int{0, 9, 0, 0, 0, 9, 0}, one(1, 5, 1, 9), nil},
		{median(1, 5, 8, 8, 50), []int{9, 0, 0, 0, 0, 0, 0, 0, 0, 9, 0}, nil, one(0, 9, 0, 9)},
		{median(1, 5, 7, 8, 50), []int{9, 0, 0, 0, 0, 0, 0, 0, 0, 9, 0}, append(one(0, 0, 0, 9), one(9, 9, 9, 9)...), nil},
		// Runs are connected by what lies between.
		{median(1, 5, 2, 8, 50), []int{0, 7, 0, 0, -8, 0, 8, 0}, one(1, 6, 4, 8), nil},
		// The peak is the first one of several.
		{median(1, 5, 2, 4, 50), []int{0, 9, 0, -9, 0, 0}, one(1, 3, 1, 9), nil},
		{median(1, 5, 2, 4, 50), []int{0, 7, 0, -9, 0, 0}, one(1, 3, 3, 9), nil},
		// The lower one of the last two samples is their median.
		{median(1, 5, 2, 4, 50), []int{0, 9, 0, -9, 0}, one(1, 4, 1, 9), nil},
		// A click at each end.
		{median(1, 5, 2, 4, 50), []int{9, 0, 0, 0, 0, 9}, append(one(0, 0, 0, 9), one(5, 5, 5, 9)...), nil},
		{curve(5, 2, 4, 50), []int{9, 0, 0, 0, 0, 9}, one(1, 4, 1, 9), nil},
		// Clicks and passages in their order.
		{
			median(1, 5, 2, 2, 50),
			[]int{9, 0, 0, 0, 9, 0, 9, 0, 0, 0, 9, 0, 0, 0, 7, 0, 0, -7, 0, 0},
			append(one(0, 0, 0, 9), one(10, 10, 10, 9)...),
			append(one(4, 6, 4, 9), one(14, 17, 14, 7)...),
		},
		{median(1, 5, 2, 4, 50), nil, nil, nil},
		{curve(0, 2, 4, 50), []int{5}, nil, nil},
	} {
		expect(t, v, shown(click.Clicks(v.r, v.x)), shown(v.clicks, api.OK))
		expect(t, v, shown(click.Passages(v.r, v.x)), shown(v.passages, api.OK))
	}
}

// P5.2 and P5.12
func TestClicksByDefinition(t *testing.T) {
	d := dice(2)
	var counts [2]int
	for range 1500 {
		r, x := someRules(d), crackling(d, between(d, 1, 200))
		deviations, _ := click.Deviations(r, x)
		var want [2][]api.ClickRun
		for _, run := range runsOf(r, deviations) {
			kind := 0
			if run.Run.Hi-run.Run.Lo >= r.Most {
				kind = 1
			}
			want[kind] = append(want[kind], run)
			counts[kind]++
		}
		clicks, clicksError := click.Clicks(r, x)
		passages, passagesError := click.Passages(r, x)
		expect(t, r, shown(clicks, clicksError), shown(want[0], api.OK))
		expect(t, r, shown(passages, passagesError), shown(want[1], api.OK))
		checkRuns(t, r, deviations, append(runsIn(clicks), runsIn(passages)...))
	}
	if counts[0] < 1000 || counts[1] < 1000 {
		t.Error("too few clicks or passages:", counts)
	}
}

// checkRuns expects that runs contain all suspicious samples, and that more than Join other ones lie between them (P5.12).
func checkRuns(t *testing.T, r api.ClickRules, deviations []int, runs []api.Range) {
	t.Helper()
	slices.SortFunc(runs, func(a, b api.Range) int { return a.Lo - b.Lo })
	for i, deviation := range deviations {
		if deviation > r.Threshold && !covers(runs, i) {
			t.Error(r, deviations, runs, "do not contain", i)
		}
	}
	for i, run := range runs {
		if deviations[run.Lo] <= r.Threshold || deviations[run.Hi] <= r.Threshold {
			t.Error(r, deviations, run, "does not reach from a suspicious sample to another one")
		}
		if i > 0 && run.Lo-runs[i-1].Hi-1 <= r.Join {
			t.Error(r, deviations, run, "is too close to", runs[i-1])
		}
	}
}

// P5.2, example 1
func TestEnergyOf(t *testing.T) {
	for _, v := range []struct {
		x    []int
		want int
	}{
		{[]int{0, 0, 9, 0, 0}, 486}, {nil, 0}, {[]int{7}, 0}, {[]int{7, -9}, 0}, {[]int{1, 2, 3, 4}, 0}, {[]int{1, 0, 0}, 1}, {[]int{0, 1, 0}, 4}, {[]int{0, 0, -1}, 1},
		{[]int{maxSample, -maxSample, maxSample}, 17178820624},
		{slices.Repeat([]int{maxSample, -maxSample}, 100), 198 * 17178820624},
	} {
		expect(t, v, shown(click.EnergyOf(v.x)), shown(v.want, api.OK))
	}
	for _, bad := range signalsWithErrors() {
		expect(t, len(bad.x), shown(click.EnergyOf(bad.x)), shown(0, bad.e))
	}
	d := dice(3)
	for range 200 {
		x := someNumbers(d, between(d, 0, 200), maxSample)
		expect(t, x, shown(click.EnergyOf(x)), shown(energyIn(whole(x)).Num(), api.OK))
	}
}
