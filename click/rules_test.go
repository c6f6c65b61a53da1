package click_test

import (
	"testing"

	"lacquer/api"
	"lacquer/click"
)

// unchanged makes a call twice, spoils its first result in between, and expects that neither the arguments nor the second result differ (R3, R4).
func unchanged[T any](t *testing.T, what string, arguments any, call func() (T, api.Errno), spoil func(T)) {
	t.Helper()
	before := shown(arguments)
	first, e := call()
	want := shown(first, e)
	if e != api.OK {
		t.Error(what, e)
	}
	spoil(first)
	expect(t, what, shown(call()), want)
	expect(t, what, shown(arguments), before)
}

func spoilList(l []int) {
	for i := range l {
		l[i] = -1
	}
	// Room behind a result belongs to it, too.
	_ = append(l, -1)
}

func spoilRuns(l []api.ClickRun) {
	for i := range l {
		l[i] = api.ClickRun{Peak: -1}
	}
}

func spoilMends(l []api.ClickMend) {
	for i := range l {
		spoilList(l[i].Nums)
		l[i] = api.ClickMend{From: -1}
	}
}

func spoilHum(h api.ClickHum) {
	spoilList(h.Table)
}

// R3, R4
func TestSignalsAreNotShared(t *testing.T) {
	// x has room behind its samples that belongs to all.
	all := []int{0, 9, 0, 0, 0, 0, 9, 0, 3, 4}
	x := all[:8]
	marks := ranges(1, 1, 5, 6)
	arguments := []any{all, marks}
	for _, r := range []api.ClickRules{median(2, 5, 2, 4, 50), curve(5, 2, 4, 90), median(1, 100, 2, 4, 50)} {
		unchanged(t, "deviations", arguments, func() ([]int, api.Errno) { return click.Deviations(r, x) }, spoilList)
		unchanged(t, "clicks", arguments, func() ([]api.ClickRun, api.Errno) { return click.Clicks(r, x) }, spoilRuns)
		unchanged(t, "mended", arguments, func() ([]int, api.Errno) { return click.Mended(r, x) }, spoilList)
	}
	passages := median(1, 5, 8, 1, 50)
	unchanged(t, "passages", arguments, func() ([]api.ClickRun, api.Errno) { return click.Passages(passages, x) }, spoilRuns)
	unchanged(t, "energy", arguments, func() (int, api.Errno) { return click.EnergyOf(x) }, func(int) {})
	for _, l := range [][]api.Range{marks, nil} {
		unchanged(t, "exact", arguments, func() ([]api.ClickMend, api.Errno) { return click.Exact(x, l) }, spoilMends)
		unchanged(t, "interpolated", arguments, func() ([]int, api.Errno) { return click.Interpolated(x, l) }, spoilList)
	}
	mends := exact(t, x, marks)
	unchanged(t, "check", []any{arguments, mends}, func() (int, api.Errno) { return click.CheckExact(x, marks, mends) }, func(int) {})
	unchanged(t, "touched", all, func() ([]int, api.Errno) { return click.Touched(x, all[1:9]) }, spoilList)
}

// R3: the values of one mend are not those of another one.
func TestMendsAreNotShared(t *testing.T) {
	x := []int{0, 0, 9, 9, 6, 8, 0, 0, 7, 5}
	l := exact(t, x, ranges(2, 3, 6, 7))
	want := shown(l[1])
	spoilMends(l[:1])
	expect(t, "second", shown(l[1]), want)
}

// R3, R4
func TestHumsAreNotShared(t *testing.T) {
	all := []int{0, 9, 0, 1, 3, 4}
	x := all[:4]
	table := []int{-1, 3, 7, 7}
	h := hum(2, 1, table[:2]...)
	arguments := []any{all, table}
	unchanged(t, "period", arguments, func() (int, api.Errno) { return click.PeriodOf(x, api.Range{Lo: 1, Hi: 3}) }, func(int) {})
	unchanged(t, "hum", arguments, func() (api.ClickHum, api.Errno) { return click.HumOf(x, 2) }, spoilHum)
	unchanged(t, "removed", arguments, func() ([]int, api.Errno) { return click.Removed(h, x) }, spoilList)
	unchanged(t, "added", arguments, func() ([]int, api.Errno) { return click.Added(h, x) }, spoilList)
	unchanged(t, "no hum", arguments, func() ([]int, api.Errno) { return click.Removed(hum(1, 0, 0), x) }, spoilList)
	unchanged(t, "format", arguments, func() (string, api.Errno) { return click.FormatHum(h), api.OK }, func(string) {})
	unchanged(t, "parse", "", func() (api.ClickHum, api.Errno) { return click.ParseHum("2 0 -1 3") }, spoilHum)
}

// R5
func TestNilAndEmptyAreEqual(t *testing.T) {
	for _, x := range [][]int{nil, {}} {
		for _, r := range []api.ClickRules{median(1, 0, 2, 1, 0), curve(0, 2, 1, 0)} {
			expect(t, "deviations", shown(click.Deviations(r, x)), shown([]int{}, api.OK))
			expect(t, "clicks", shown(click.Clicks(r, x)), shown([]api.ClickRun{}, api.OK))
			expect(t, "passages", shown(click.Passages(r, x)), shown([]api.ClickRun{}, api.OK))
			expect(t, "mended", shown(click.Mended(r, x)), shown([]int{}, api.OK))
		}
		for _, marks := range [][]api.Range{nil, {}} {
			expect(t, "marks", shown(click.CheckMarks(x, marks)), shown(0, api.OK))
			expect(t, "exact", shown(click.Exact(x, marks)), shown([]api.ClickMend{}, api.OK))
			expect(t, "interpolated", shown(click.Interpolated(x, marks)), shown([]int{}, api.OK))
			for _, mends := range [][]api.ClickMend{nil, {}} {
				expect(t, "check", shown(click.CheckExact(x, marks, mends)), shown(0, api.OK))
			}
		}
		expect(t, "energy", shown(click.EnergyOf(x)), shown(0, api.OK))
		expect(t, "touched", shown(click.Touched(x, nil)), shown([]int{}, api.OK))
		expect(t, "touched", shown(click.Touched([]int{}, x)), shown([]int{}, api.OK))
		expect(t, "removed", shown(click.Removed(hum(1, 0, 5), x)), shown([]int{}, api.OK))
		expect(t, "added", shown(click.Added(hum(1, 0, 5), x)), shown([]int{}, api.OK))
		expect(t, "hum", shown(click.CheckHum(hum(1, 0, x...))), shown(api.ErrShape))
		expect(t, "mend", shown(click.CheckExact([]int{1, 2, 3}, ranges(0, 0), []api.ClickMend{mend(0, 1, x...)})), shown(0, api.ErrShape))
	}
}
