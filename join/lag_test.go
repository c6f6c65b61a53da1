package join_test

import (
	"math"
	"slices"
	"testing"

	"lacquer/api"
	"lacquer/join"
)

// correlation is the document's definition.
func correlation(a, b []int, lag int) int {
	sum := 0
	for i := range a {
		for j := range b {
			if j == i+lag {
				sum += a[i] * b[j]
			}
		}
	}
	return sum
}

// bestLag is the document's definition.
func bestLag(a, b []int, limit int) api.JoinLag {
	var lags []int
	for lag := -limit; lag <= limit; lag++ {
		lags = append(lags, lag)
	}
	slices.SortStableFunc(lags, func(x, y int) int { return max(x, -x) - max(y, -y) })
	best := api.JoinLag{Correlation: math.MinInt}
	for _, lag := range lags {
		if c := correlation(a, b, lag); c > best.Correlation {
			best = api.JoinLag{Lag: lag, Correlation: c}
		}
	}
	best.Margin = math.MaxInt
	for _, lag := range lags {
		if lag != best.Lag {
			best.Margin = min(best.Margin, best.Correlation-correlation(a, b, lag))
		}
	}
	return best
}

// P7.1, example 1, and the edge cases
func TestCorrelationAt(t *testing.T) {
	a, b := []int{1, 2, 3}, []int{0, 1, 2, 3}
	for _, v := range []struct {
		a, b      []int
		lag, want int
	}{
		{a, b, 1, 14}, {a, b, 0, 8}, {a, b, 2, 8}, {a, b, -1, 3}, {a, b, 3, 3}, {a, b, -2, 0},
		{b, a, -1, 14}, {b, a, 1, 3},
		// No products exist.
		{a, b, 4, 0}, {a, b, -3, 0}, {a, b, 100, 0}, {a, b, -100, 0}, {nil, b, 0, 0}, {a, nil, 0, 0}, {nil, nil, 5, 0},
		{[]int{-5}, []int{7, -8}, 0, -35}, {[]int{-5}, []int{7, -8}, 1, 40},
		{slices.Repeat([]int{maxSample}, 200), slices.Repeat([]int{-maxSample}, 200), 0, -200 * maxSample * maxSample},
		{slices.Repeat([]int{maxSample}, 200), slices.Repeat([]int{maxSample}, 200), -100, 100 * maxSample * maxSample},
	} {
		expect(t, v, shown(join.CorrelationAt(v.a, v.b, v.lag)), shown(v.want, api.OK))
	}
}

// P7.1, example 1, and the edge cases
func TestLagOf(t *testing.T) {
	a, b := []int{1, 2, 3}, []int{0, 1, 2, 3}
	for _, v := range []struct {
		a, b  []int
		limit int
		want  api.JoinLag
	}{
		{a, b, 2, api.JoinLag{Lag: 1, Correlation: 14, Margin: 6}},
		{a, b, 1, api.JoinLag{Lag: 1, Correlation: 14, Margin: 6}},
		{a, b, 100, api.JoinLag{Lag: 1, Correlation: 14, Margin: 6}},
		{b, a, 1, api.JoinLag{Lag: -1, Correlation: 14, Margin: 6}},
		{nil, nil, 1, api.JoinLag{}}, {nil, b, 100, api.JoinLag{}}, {a, []int{}, 50, api.JoinLag{}},
		{make([]int, 200), make([]int, 200), 100, api.JoinLag{}},
		// -2 and 2 have the same correlation.
		{[]int{0, 0, 1, 0, 0}, []int{1, 0, 0, 0, 1}, 5, api.JoinLag{Lag: -2, Correlation: 1}},
		{[]int{0, 0, 1, 0, 0}, []int{1, 0, 0, 0, 1}, 1, api.JoinLag{}},
		{[]int{0, 0, 1, 0, 0}, []int{1, 0, 0, 1, 0}, 5, api.JoinLag{Lag: 1, Correlation: 1}},
		{[]int{0, 0, 1, 0, 0}, []int{1, 0, 1, 0, 1}, 5, api.JoinLag{Correlation: 1}},
		// The lags without products count, too: their correlation 0 exceeds those below.
		{[]int{1}, []int{-1}, 1, api.JoinLag{Lag: -1}},
		{[]int{1}, []int{-1, -2, -3, -1, 5}, 3, api.JoinLag{Lag: -1}},
		{[]int{1}, []int{-1, -2, -3, -1, 5}, 4, api.JoinLag{Lag: 4, Correlation: 5, Margin: 5}},
		// All correlations are below 0.
		{[]int{1, 1}, []int{-3, -1}, 1, api.JoinLag{Lag: 1, Correlation: -1, Margin: 2}},
		{[]int{1, 1}, []int{-2, -2}, 1, api.JoinLag{Lag: -1, Correlation: -2}},
	} {
		expect(t, v, shown(join.LagOf(v.a, v.b, v.limit)), shown(v.want, api.OK))
	}
}

// P7.1: by the document's definition
func TestSomeLags(t *testing.T) {
	d := dice(1)
	for n := range 600 {
		limit, size := between(d, 1, 12), []int{1, 2, 5, maxSample}[n%4]
		a, b := someNumbers(d, between(d, 0, 10), size), someNumbers(d, between(d, 0, 10), size)
		expect(t, []any{a, b, limit}, shown(join.LagOf(a, b, limit)), shown(bestLag(a, b, limit), api.OK))
		lag := between(d, -12, 12)
		expect(t, []any{a, b, lag}, shown(join.CorrelationAt(a, b, lag)), shown(correlation(a, b, lag), api.OK))
	}
	a, b := someNumbers(d, 200, maxSample), someNumbers(d, 200, maxSample)
	expect(t, "long", shown(join.LagOf(a, b, 100)), shown(bestLag(a, b, 100), api.OK))
}

// P7.8
func TestShiftedCopies(t *testing.T) {
	d := dice(2)
	for range 400 {
		a := someNumbers(d, between(d, 1, 30), []int{1, 50, maxSample}[d.IntN(3)])
		if slices.Max(a) == 0 && slices.Min(a) == 0 {
			continue
		}
		n := []int{0, between(d, 0, 20), 100}[d.IntN(3)]
		b := append(make([]int, n), a...)
		for _, limit := range []int{max(1, n), min(100, n+5), 100} {
			lag, e := join.LagOf(a, b, limit)
			if lag.Lag != n || lag.Margin <= 0 || e != api.OK {
				t.Error(a, n, limit, lag, e)
			}
		}
	}
}

// P7.1
func TestErrorsOfLags(t *testing.T) {
	x := []int{1, 2}
	for _, bad := range signalsWithErrors() {
		expect(t, bad, shown(join.CorrelationAt(bad.x, x, 0)), shown(0, bad.e))
		expect(t, bad, shown(join.CorrelationAt(x, bad.x, 101)), shown(0, bad.e))
		expect(t, bad, shown(join.LagOf(bad.x, x, 1)), shown(api.JoinLag{}, bad.e))
		expect(t, bad, shown(join.LagOf(x, bad.x, 0)), shown(api.JoinLag{}, bad.e))
	}
	// Of several errors the first one.
	wrong, long := []int{maxSample + 1}, make([]int, 201)
	expect(t, "both", shown(join.CorrelationAt(wrong, long, 0)), shown(0, api.ErrRange))
	expect(t, "both", shown(join.CorrelationAt(long, wrong, 0)), shown(0, api.ErrLarge))
	expect(t, "both", shown(join.LagOf(wrong, long, 1)), shown(api.JoinLag{}, api.ErrRange))
	expect(t, "both", shown(join.LagOf(long, wrong, 1)), shown(api.JoinLag{}, api.ErrLarge))
	for _, lag := range beyond(-100, 100) {
		expect(t, lag, shown(join.CorrelationAt(x, x, lag)), shown(0, api.ErrRange))
	}
	for _, limit := range beyond(1, 100) {
		expect(t, limit, shown(join.LagOf(x, x, limit)), shown(api.JoinLag{}, api.ErrRange))
		expect(t, limit, shown(join.LagOf(nil, nil, limit)), shown(api.JoinLag{}, api.ErrRange))
	}
}
