package resample_test

import (
	"testing"

	"lacquer/api"
	"lacquer/resample"
)

// unchanged makes a call twice, spoils its first result in between, and expects that neither the arguments nor the second result differ (R3, R4).
func unchanged[T any](t *testing.T, what string, arguments any, call func() (T, api.Errno), spoil func(T)) {
	t.Helper()
	before := shown(arguments)
	first, e := call()
	want := shown(first, e)
	if e != api.OK {
		t.Error(what, e)
	}
	spoil(first)
	expect(t, what, shown(call()), want)
	expect(t, what, shown(arguments), before)
}

func spoilList(l []int) {
	for i := range l {
		l[i] = -1
	}
	// Room behind a result belongs to it, too.
	_ = append(l, -1)
}

func spoilFilter(f api.ResampleFilter) {
	spoilList(f.Coefficients)
}

func spoilRules(r api.ResampleRules) {
	for i := range r.Map.Nodes {
		r.Map.Nodes[i] = api.SpeedNode{Position: -1, Time: -1}
	}
}

// R3, R4
func TestSignalsAreNotShared(t *testing.T) {
	// x has room behind its samples that belongs to whole.
	whole := []int{0, 10, 20, 40, 50, 60}
	x := whole[:4]
	q, f := equalizer(0, 0, 1), filter(1, 1)
	for _, r := range []api.ResampleRules{ratio(1, 1, 1), ratio(3, 2, 3), mapped(3, 5, 0, 0, 2, 20, 3, 40)} {
		unchanged(t, "positions", r, func() ([]int, api.Errno) { return resample.PositionsOf(r, 4) }, spoilList)
		unchanged(t, "resampled", []any{r, whole}, func() ([]int, api.Errno) { return resample.Resampled(r, x) }, spoilList)
	}
	unchanged(t, "filtered", []any{f, whole}, func() ([]int, api.Errno) { return resample.Filtered(f, x) }, spoilList)
	unchanged(t, "equalized", whole, func() ([]int, api.Errno) { return resample.Equalized(q, x) }, spoilList)
	unchanged(t, "restored", whole, func() ([]int, api.Errno) { return resample.Restored(q, x) }, spoilList)
	for order := 1; order <= 4; order++ {
		unchanged(t, "differences", whole, func() ([]int, api.Errno) { return resample.Differences(x, order) }, spoilList)
	}
	for _, degree := range degrees {
		unchanged(t, "weights", degree, func() ([]int, api.Errno) { l, _, e := resample.WeightsAt(degree, 0); return l, e }, spoilList)
		unchanged(t, "value", whole, func() (int, api.Errno) { n, _, e := resample.ValueAt(degree, x, 70); return n, e }, func(int) {})
	}
}

// R3, R4
func TestFiltersAreNotShared(t *testing.T) {
	whole := []int{1, -2, 1, 7}
	f, one := filter(2, whole[:3]...), filter(1, 1)
	unchanged(t, "worst", whole, func() ([]int, api.Errno) { return resample.WorstInput(f, 1) }, spoilList)
	unchanged(t, "maximum", whole, func() (api.Frac, api.Errno) { return resample.MaximumOutput(f, 1) }, func(api.Frac) {})
	unchanged(t, "composed", []any{whole, one}, func() (api.ResampleFilter, api.Errno) { return resample.Composed(f, one) }, spoilFilter)
	unchanged(t, "composed", []any{whole, one}, func() (api.ResampleFilter, api.Errno) { return resample.Composed(one, f) }, spoilFilter)
	unchanged(t, "filter", "", func() (api.ResampleFilter, api.Errno) { return resample.ParseFilter("2 1 -2 1") }, spoilFilter)
	unchanged(t, "rules", "", func() (api.ResampleRules, api.Errno) { return resample.ParseRules("map 1 5 0@0 2@20") }, spoilRules)
}

// R5
func TestNilAndEmptyAreEqual(t *testing.T) {
	for _, x := range [][]int{nil, {}} {
		expect(t, "resampled", shown(resample.Resampled(ratio(1, 1, 2), x)), shown([]int{}, api.OK))
		expect(t, "filtered", shown(resample.Filtered(filter(1, 1), x)), shown([]int{}, api.OK))
		expect(t, "equalized", shown(resample.Equalized(equalizer(1, 1, 1), x)), shown([]int{}, api.OK))
		expect(t, "restored", shown(resample.Restored(equalizer(1, 1, 1), x)), shown([]int{}, api.OK))
		expect(t, "differences", shown(resample.Differences(x, 1)), shown([]int{}, api.OK))
		expect(t, "value", shown(resample.ValueAt(1, x, 0)), shown(0, 0, api.ErrRange))
		expect(t, "filter", shown(resample.CheckFilter(filter(1, x...))), shown(api.ErrShape))
	}
	for _, nodes := range [][]api.SpeedNode{nil, {}} {
		m := api.SpeedMap{Nodes: nodes}
		expect(t, "ratio", shown(resample.CheckRules(api.ResampleRules{Degree: 1, Num: 1, Den: 1, Map: m})), shown(api.OK))
		expect(t, "map", shown(resample.CheckRules(api.ResampleRules{Kind: api.ResampleMap, Degree: 1, Step: 1, Map: m})), shown(api.ErrShape))
	}
}
