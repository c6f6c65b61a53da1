package resample_test

import (
	"math/big"
	"math/rand/v2"
	"slices"
	"testing"

	"lacquer/api"
	"lacquer/resample"
)

// filter returns a filter: its denominator, and its coefficients.
func filter(den int, coefficients ...int) api.ResampleFilter {
	return api.ResampleFilter{Coefficients: coefficients, Den: den}
}

func someFilter(d *rand.Rand, limit int) api.ResampleFilter {
	return filter(between(d, 1, limit), someNumbers(d, between(d, 1, 8), limit)...)
}

func someFilters(seed uint64) []api.ResampleFilter {
	d := dice(seed)
	l := []api.ResampleFilter{
		filter(1, 0), filter(1, 1), filter(2, 1, -2, 1), filter(7, 0, 0, 0), filter(1000, 1000), filter(1, -1000), filter(3, 0, 1, 0),
		filter(1, 1000, -1000, 1000, -1000, 1000, -1000, 1000, -1000), filter(1, 0, 0, 0, 0, 0, 0, 0, 1),
	}
	for range 60 {
		l = append(l, someFilter(d, 4), someFilter(d, 1000))
	}
	return l
}

// badFilter is a filter with its error, which always comes before those that it has, too.
type badFilter struct {
	f api.ResampleFilter
	e api.Errno
}

func filtersWithErrors() []badFilter {
	l := []badFilter{
		{filter(1), api.ErrShape},
		{filter(0), api.ErrShape},
		{filter(1, 1, 1, 1, 1, 1, 1, 1, 1, 1), api.ErrLarge},
		{filter(0, 0, 0, 0, 0, 0, 0, 0, 0, 1001), api.ErrLarge},
		{filter(1, make([]int, 5000)...), api.ErrLarge},
	}
	for _, n := range beyond(-1000, 1000) {
		l = append(l, badFilter{filter(1, n), api.ErrRange}, badFilter{filter(2, 1000, -1000, 0, 1, 2, 3, 4, n), api.ErrRange})
	}
	for _, n := range beyond(1, 1000) {
		l = append(l, badFilter{filter(n, 1, 2), api.ErrRange}, badFilter{filter(n, 0), api.ErrRange})
	}
	return l
}

// P4.4
func TestCheckFilter(t *testing.T) {
	for _, f := range someFilters(12) {
		expect(t, f, shown(resample.CheckFilter(f)), shown(api.OK))
	}
	for _, bad := range filtersWithErrors() {
		expect(t, bad, shown(resample.CheckFilter(bad.f)), shown(bad.e))
	}
}

// sumOf returns the sum of a filter at an index.
func sumOf(f api.ResampleFilter, x []int, n int) int {
	sum := 0
	for i, sample := range x {
		if k := n - i; k >= 0 && k < len(f.Coefficients) {
			sum += sample * f.Coefficients[k]
		}
	}
	return sum
}

// P4.4, example 7
func TestFiltered(t *testing.T) {
	for _, v := range []struct {
		f    api.ResampleFilter
		x, y []int
	}{
		{filter(2, 1, -2, 1), []int{0, 10, 20, 40}, []int{0, 5, 0, 5}},
		{filter(2, 1), []int{-1, 1, -2, 2, -3, 3}, []int{-1, 0, -1, 1, -2, 1}},
		{filter(1, 1), []int{5, -5}, []int{5, -5}},
		{filter(1, 0, 0, 1), []int{1, 2, 3, 4}, []int{0, 0, 1, 2}},
		{filter(1, 0, 0, 1), []int{1, 2}, []int{0, 0}},
		{filter(1, 1, 2, 4, 8), []int{1}, []int{1}},
		{filter(1, 1, 2, 4, 8), []int{1, 0, 0, 0, 0}, []int{1, 2, 4, 8, 0}},
		{filter(9, 0, 0), []int{5, -5}, []int{0, 0}},
		{filter(1, 1, 1), nil, nil},
		{filter(1, 1000, 1000), []int{32767, 32767, -32767, -32767}, []int{32767000, 65534000, 0, -65534000}},
	} {
		expect(t, v, shown(resample.Filtered(v.f, v.x)), shown(v.y, api.OK))
	}
	d := dice(13)
	for _, f := range someFilters(14) {
		x := someNumbers(d, between(d, 1, 40), maxSample)
		var want []int
		for n := range x {
			want = append(want, floorOf(f.Den, sumOf(f, x, n), 1))
		}
		expect(t, f, shown(resample.Filtered(f, x)), shown(want, api.OK))
	}
	y, e := resample.Filtered(filter(1, 1), make([]int, 400))
	expect(t, "as many as there may be", shown(len(y), e), shown(400, api.OK))
}

// P4.4
func TestFilteredErrors(t *testing.T) {
	for e, signals := range signalsWithErrors(maxSample) {
		for _, x := range signals {
			expect(t, x, shown(resample.Filtered(filter(1, 1), x)), shown([]int{}, e))
			for _, bad := range filtersWithErrors() {
				expect(t, bad, shown(resample.Filtered(bad.f, x)), shown([]int{}, bad.e))
			}
		}
	}
	for _, bad := range filtersWithErrors() {
		expect(t, bad, shown(resample.Filtered(bad.f, []int{1, 2})), shown([]int{}, bad.e))
		expect(t, bad, shown(resample.Filtered(bad.f, nil)), shown([]int{}, bad.e))
	}
}

// P4.4, example 7
func TestMaximumOutput(t *testing.T) {
	for _, v := range []struct {
		f         api.ResampleFilter
		amplitude int
		want      api.Frac
		worst     []int
	}{
		{filter(2, 1, -2, 1), 100, api.Frac{Num: 200, Den: 1}, []int{100, -100, 100}},
		{filter(1, 0, -3, 2), 5, api.Frac{Num: 25, Den: 1}, []int{5, -5, 0}},
		{filter(9, 0, 0), 100, api.Frac{Num: 0, Den: 1}, []int{0, 0}},
		{filter(9, 4, -5), 0, api.Frac{Num: 0, Den: 1}, []int{0, 0}},
		{filter(6, 1, 3), 1, api.Frac{Num: 2, Den: 3}, []int{1, 1}},
		{filter(7, -1), 1, api.Frac{Num: 1, Den: 7}, []int{-1}},
		{filter(1, 1000, 1000, 1000, 1000, -1000, -1000, -1000, -1000), maxSample, api.Frac{Num: 262136000, Den: 1}, []int{-maxSample, -maxSample, -maxSample, -maxSample, maxSample, maxSample, maxSample, maxSample}},
	} {
		expect(t, v, shown(resample.MaximumOutput(v.f, v.amplitude)), shown(v.want, api.OK))
		expect(t, v, shown(resample.WorstInput(v.f, v.amplitude)), shown(v.worst, api.OK))
	}
	for _, amplitude := range append(beyond(0, maxSample), 0, 100) {
		for _, bad := range filtersWithErrors() {
			expect(t, bad, shown(resample.MaximumOutput(bad.f, amplitude)), shown(api.Frac{}, bad.e))
			expect(t, bad, shown(resample.WorstInput(bad.f, amplitude)), shown([]int{}, bad.e))
		}
	}
	for _, amplitude := range beyond(0, maxSample) {
		expect(t, amplitude, shown(resample.MaximumOutput(filter(1, 1), amplitude)), shown(api.Frac{}, api.ErrRange))
		expect(t, amplitude, shown(resample.WorstInput(filter(1, 1), amplitude)), shown([]int{}, api.ErrRange))
	}
}

// P4.4 and P4.11
func TestMaximumOutputIsAttained(t *testing.T) {
	d := dice(15)
	for _, f := range someFilters(16) {
		amplitude := []int{0, 1, between(d, 2, 100), maxSample}[d.IntN(4)]
		m, e := resample.MaximumOutput(f, amplitude)
		expect(t, f, shown(e), shown(api.OK))
		worst, e := resample.WorstInput(f, amplitude)
		expect(t, f, shown(len(worst), e), shown(len(f.Coefficients), api.OK))
		attained := parts(int64(sumOf(f, worst, len(worst)-1)), int64(f.Den))
		want := api.Frac{Num: int(attained.Num().Int64()), Den: int(attained.Denom().Int64())}
		expect(t, f, shown(m), shown(want))
		for i, sample := range worst {
			c := f.Coefficients[len(worst)-1-i]
			if sample != 0 && sample != amplitude && sample != -amplitude || sample != 0 && c == 0 || sample == 0 && c != 0 && amplitude != 0 {
				t.Error(f, worst, i)
			}
		}
		limit := -floorOf(m.Den, -m.Num, 1)
		for range 5 {
			y, e := resample.Filtered(f, someNumbers(d, 50, amplitude))
			if e != api.OK || slices.Max(y) > limit || slices.Min(y) < -limit {
				t.Error(f, amplitude, limit, y, e)
			}
		}
	}
}

// product returns the coefficients of the product of two polynomials.
func product(f, g api.ResampleFilter) []*big.Int {
	l := make([]*big.Int, len(f.Coefficients)+len(g.Coefficients)-1)
	for n := range l {
		l[n] = big.NewInt(int64(sumOf(f, g.Coefficients, n)))
	}
	return l
}

// P4.4
func TestComposed(t *testing.T) {
	eight := []int{1, 2, 3, 4, 5, 6, 7, 8}
	for _, v := range []struct{ f, g, want api.ResampleFilter }{
		{filter(2, 1, -2, 1), filter(2, 1, -2, 1), filter(4, 1, -4, 6, -4, 1)},
		{filter(2, 1, 2), filter(3, 4, 5, 6), filter(6, 4, 13, 16, 12)},
		{filter(3, 5), filter(7, 11), filter(21, 55)},
		{filter(2, 2), filter(2, 2), filter(4, 4)},
		{filter(1, 0), filter(1, eight...), filter(1, 0, 0, 0, 0, 0, 0, 0, 0)},
		{filter(1, 1), filter(1, eight...), filter(1, eight...)},
		{filter(1, 1, 0, 0, 0), filter(1, 1, 0, 0, 0, 0), filter(1, 1, 0, 0, 0, 0, 0, 0, 0)},
		{filter(1, 1000), filter(1, -1), filter(1, -1000)},
		{filter(8, 500), filter(125, 2, -2), filter(1000, 1000, -1000)},
		{filter(1000, 1000), filter(1, 1), filter(1000, 1000)},
		{filter(1, 1000, -1000), filter(1, 1, 1), filter(1, 1000, 0, -1000)},
	} {
		expect(t, v, shown(resample.Composed(v.f, v.g)), shown(v.want, api.OK))
		expect(t, v, shown(resample.Composed(v.g, v.f)), shown(v.want, api.OK))
	}
	for _, v := range []struct{ f, g api.ResampleFilter }{
		{filter(1, 1, 0), filter(1, eight...)},
		{filter(1, 0, 0), filter(1, eight...)},
		{filter(1, eight...), filter(1, eight...)},
		{filter(1, 1000), filter(1, 2)},
		{filter(1, 7), filter(1, -143)},
		{filter(1, 1000, 1), filter(1, 1, 1)},
		{filter(1, -1000, 1, 1000), filter(1, 0, 0, 0, 0, 1, 1)},
		{filter(7, 1), filter(143, 1)},
		{filter(1000, 0), filter(1000, 0)},
	} {
		expect(t, v, shown(resample.Composed(v.f, v.g)), shown(api.ResampleFilter{}, api.ErrLarge))
		expect(t, v, shown(resample.Composed(v.g, v.f)), shown(api.ResampleFilter{}, api.ErrLarge))
	}
}

// P4.4
func TestComposedOfSomeFilters(t *testing.T) {
	d := dice(17)
	composed := 0
	for range 1000 {
		f, g := someFilter(d, 30), someFilter(d, between(d, 1, 60))
		l := product(f, g)
		isLarge := func(n *big.Int) bool { return n.CmpAbs(big.NewInt(1000)) > 0 }
		if len(l) > 8 || slices.ContainsFunc(l, isLarge) || f.Den*g.Den > 1000 {
			expect(t, f, shown(resample.Composed(f, g)), shown(api.ResampleFilter{}, api.ErrLarge))
			continue
		}
		composed++
		want := filter(f.Den * g.Den)
		for _, n := range l {
			want.Coefficients = append(want.Coefficients, int(n.Int64()))
		}
		expect(t, f, shown(resample.Composed(f, g)), shown(want, api.OK))
	}
	if composed < 50 {
		t.Error("too few filters are composed:", composed)
	}
	for _, bad := range filtersWithErrors() {
		for _, good := range []api.ResampleFilter{filter(1, 1), filter(1000, 1000), filter(1, make([]int, 8)...)} {
			expect(t, bad, shown(resample.Composed(bad.f, good)), shown(api.ResampleFilter{}, bad.e))
			expect(t, bad, shown(resample.Composed(good, bad.f)), shown(api.ResampleFilter{}, bad.e))
		}
		for _, other := range filtersWithErrors() {
			expect(t, bad, shown(resample.Composed(bad.f, other.f)), shown(api.ResampleFilter{}, bad.e))
		}
	}
}
