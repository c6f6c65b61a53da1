package join_test

import (
	"slices"
	"testing"

	"lacquer/api"
	"lacquer/join"
)

// unchanged makes a call twice, spoils its first result in between, and expects that neither the arguments nor the second result differ (R3, R4).
func unchanged[T any](t *testing.T, what string, arguments any, call func() (T, api.Errno), spoil func(T)) {
	t.Helper()
	before := shown(arguments)
	first, e := call()
	want := shown(first, e)
	if e != api.OK {
		t.Error(what, e)
	}
	spoil(first)
	expect(t, what, shown(call()), want)
	expect(t, what, shown(arguments), before)
}

// spoilList overwrites a list, and the room behind it, which belongs to it, too.
func spoilList[T any](other T) func([]T) {
	return func(l []T) {
		for i := range l {
			l[i] = other
		}
		_ = append(l, other)
	}
}

// withRoom returns a task whose slices have room behind them that belongs to others, and these others.
func withRoom() (api.JoinTask, []any) {
	all := []int{5, 9, 5, 5, 1, 2, 3, 4, 5, 5, 5, 5}
	l := transfers(transfer("z", 0, all[:4]...), transfer("y", 1, all[3:9]...), transfer("x", 0, all[8:]...), transfer("other", 0, 7))
	return api.JoinTask{Transfers: l[:3], Length: 4, Passage: 2, Change: 3}, []any{all, l}
}

// R3, R4
func TestTransfersAreNotShared(t *testing.T) {
	x, all := withRoom()
	unchanged(t, "median", all, func() ([]int, api.Errno) { return join.Median(x.Transfers, 4) }, spoilList(-1))
	unchanged(t, "damaged", all, func() ([]api.JoinDamage, api.Errno) { return join.DamagedIn(x.Transfers, 4, 1) }, spoilList(damage("w", 9, 9)))
	unchanged(t, "best", all, func() ([]string, api.Errno) {
		names, _, e := join.BestChoice(x)
		return names, e
	}, spoilList("other"))
	names := []string{"y", "x", "z"}
	unchanged(t, "cost", []any{all, names}, func() (int, api.Errno) { return join.CostOf(x, names[:2]) }, func(int) {})
	unchanged(t, "plan", []any{all, names}, func() (api.JoinPlan, api.Errno) { return join.PlanOf(x, names[:2]) }, func(p api.JoinPlan) {
		spoilList(api.JoinPiece{From: -1})(p.Pieces)
	})
	unchanged(t, "prices", all, func() (api.JoinPrices, api.Errno) { return join.Prices(x) }, func(p api.JoinPrices) {
		for i, row := range p {
			before := shown(p[:i], p[i+1:])
			spoilList(-1)(row)
			expect(t, "rows share memory", shown(p[:i], p[i+1:]), before)
		}
	})
	p := pricesOf(t, x)
	unchanged(t, "check", []any{all, p}, func() (int, api.Errno) { return join.CheckPrices(x, p) }, func(int) {})
	unchanged(t, "check", all, func() (api.Errno, api.Errno) { return join.CheckTask(x), api.OK }, func(api.Errno) {})
}

// R3, R4
func TestSignalsAreNotShared(t *testing.T) {
	all := []int{1, 2, 3, 4, 5, 6, 7, 8, 9}
	unchanged(t, "correlation", all, func() (int, api.Errno) { return join.CorrelationAt(all[:5], all[2:6], 1) }, func(int) {})
	unchanged(t, "lag", all, func() (api.JoinLag, api.Errno) { return join.LagOf(all[:5], all[2:6], 9) }, func(api.JoinLag) {})
	signals := [][]int{all[:4], all[2:7]}
	for _, p := range []api.JoinPlan{planned(4, [3]int{0, 0, 0}), planned(5, [3]int{0, 1, 0}), examplePlan()} {
		unchanged(t, "joined", []any{all, signals, p}, func() ([]int, api.Errno) { return join.Joined(p, signals) }, spoilList(-1))
	}
	marks := append(exampleLandmarks(), api.JoinLandmark{A: 7})
	unchanged(t, "lags", marks, func() (api.Range, api.Errno) { return join.LagsOf(marks[:2]) }, func(api.Range) {})
	unchanged(t, "contradicting", marks, func() ([]int, api.Errno) { return join.Contradicting(marks[:3]) }, spoilList(-1))
	unchanged(t, "parsed", nil, func() (api.JoinPlan, api.Errno) { return join.ParsePlan("4,0 1 1,2 0 0") }, func(p api.JoinPlan) {
		spoilList(api.JoinPiece{From: -1})(p.Pieces)
	})
}

// R5
func TestNilAndEmptyAreEqual(t *testing.T) {
	for _, x := range [][]int{nil, {}} {
		expect(t, x, shown(join.CorrelationAt(x, x, -100)), shown(0, api.OK))
		expect(t, x, shown(join.LagOf(x, x, 100)), shown(api.JoinLag{}, api.OK))
		expect(t, x, shown(join.CheckTransfers(transfers(transfer("a", 0, x...)))), shown(0, api.OK))
		l := transfers(api.JoinTransfer{Name: "b", Samples: x}, transfer("a", 0, 1, 2))
		task := api.JoinTask{Transfers: l, Length: 2, Passage: 1}
		expect(t, x, shown(join.BestChoice(task)), shown([]string{"a", "a"}, 0, api.OK))
		expect(t, x, shown(join.CheckPrices(api.JoinTask{Transfers: l, Length: 2, Passage: 1}, api.JoinPrices{x, x})), shown(0, api.ErrShape))
		expect(t, x, shown(join.Joined(planned(1, [3]int{0, 0, 0}), [][]int{x})), shown([]int{}, api.ErrGap))
	}
	for _, l := range [][]api.JoinLandmark{nil, {}} {
		expect(t, l, shown(join.CheckLandmarks(l)), shown(0, api.OK))
		expect(t, l, shown(join.LagsOf(l)), shown(api.Range{}, api.ErrShape))
		expect(t, l, shown(join.Contradicting(l)), shown([]int{}, api.ErrNone))
		expect(t, l, shown(join.MostAgreed(l)), shown(0, 0, api.ErrShape))
	}
	for _, pieces := range [][]api.JoinPiece{nil, {}} {
		p := api.JoinPlan{Length: 3, Pieces: pieces}
		expect(t, p, shown(join.CheckPlan(p)), shown(0, api.ErrShape))
		expect(t, p, shown(join.FormatPlan(p)), shown("3"))
	}
}

// R2: as much as the limits permit
func TestGreatestArguments(t *testing.T) {
	loud, quiet := slices.Repeat([]int{maxSample}, 200), slices.Repeat([]int{-maxSample}, 200)
	expect(t, "lag", shown(join.LagOf(loud, loud, 100)), shown(api.JoinLag{Correlation: 200 * maxSample * maxSample, Margin: maxSample * maxSample}, api.OK))
	expect(t, "lag", shown(join.LagOf(loud, quiet, 100)), shown(api.JoinLag{Lag: -100, Correlation: -100 * maxSample * maxSample}, api.OK))
	var l []api.JoinTransfer
	for i, x := range named(6) {
		x.Samples = [][]int{loud, quiet}[i%2]
		l = append(l, x)
	}
	task := api.JoinTask{Transfers: l, Length: 200, Passage: 10, Change: 1000000}
	names := slices.Repeat([]string{"t0"}, 20)
	expect(t, "best", shown(join.BestChoice(task)), shown(names, 200*maxSample, api.OK))
	for i := range names {
		names[i] = []string{"t0", "t3"}[i%2]
	}
	expect(t, "cost", shown(join.CostOf(task, names)), shown(200*maxSample+19*1000000, api.OK))
	p, e := join.PlanOf(task, names)
	expect(t, "plan", shown(len(p.Pieces), e), shown(20, api.OK))
}
