package join_test

import (
	"slices"
	"testing"

	"lacquer/api"
	"lacquer/join"
)

// P7.4
func TestCheckTask(t *testing.T) {
	long := transfers(transfer("a", 0, make([]int, 200)...))
	task, _ := choicesFor()
	for _, x := range []api.JoinTask{
		example(), task,
		{Transfers: long, Length: 200, Passage: 10, Change: 1000000},
		{Transfers: long, Length: 200, Passage: 200},
		{Transfers: long, Length: 20, Passage: 1},
		{Transfers: long, Length: 1, Passage: 1},
		{Transfers: transfers(transfer("a", 100, make([]int, 101)...)), Length: 1, Passage: 1},
		{Transfers: transfers(transfer("a", -2, 1, 2), transfer("b", 0, 1, 2)), Length: 4, Passage: 2},
		{Transfers: transfers(transfer("a", 0, 1), transfer("b", 1, 1, 2, 3), transfer("c", 0)), Length: 2, Passage: 2},
	} {
		expect(t, x, shown(join.CheckTask(x)), shown(api.OK))
	}
	for _, bad := range tasksWithErrors() {
		expect(t, bad, shown(join.CheckTask(bad.t)), shown(bad.e))
		expect(t, bad, shown(join.CostOf(bad.t, nil)), shown(0, bad.e))
		expect(t, bad, shown(join.BestChoice(bad.t)), shown([]string{}, 0, bad.e))
		expect(t, bad, shown(join.Prices(bad.t)), shown(api.JoinPrices{}, bad.e))
		expect(t, bad, shown(join.CheckPrices(bad.t, nil)), shown(0, bad.e))
		expect(t, bad, shown(join.PlanOf(bad.t, nil)), shown(api.JoinPlan{}, bad.e))
	}
}

// P7.4, example 4
func TestCostOf(t *testing.T) {
	two := example()
	two.Transfers = two.Transfers[:2]
	free := example()
	free.Change = 0
	for _, v := range []struct {
		t     api.JoinTask
		names []string
		want  int
	}{
		{example(), []string{"z", "z"}, 0}, {example(), []string{"x", "x"}, 4}, {example(), []string{"y", "y"}, 4}, {example(), []string{"x", "y"}, 11}, {example(), []string{"y", "x"}, 3}, {example(), []string{"z", "y"}, 7},
		{two, []string{"x", "x"}, 4}, {two, []string{"y", "x"}, 7},
		{free, []string{"y", "x"}, 0}, {free, []string{"x", "y"}, 8},
	} {
		expect(t, v, shown(join.CostOf(v.t, v.names)), shown(v.want, api.OK))
	}
	task, wrong := choicesFor()
	for _, bad := range wrong {
		expect(t, bad, shown(join.CostOf(task, bad.names)), shown(0, bad.e))
		expect(t, bad, shown(join.PlanOf(task, bad.names)), shown(api.JoinPlan{}, bad.e))
	}
}

// P7.4, example 4, and the edge cases
func TestBestChoice(t *testing.T) {
	two := example()
	two.Transfers = two.Transfers[:2]
	changed := func(x api.JoinTask, change int) api.JoinTask {
		x.Change = change
		return x
	}
	// Nobody is best everywhere, and nobody is ever bad.
	mixed := api.JoinTask{Transfers: transfers(transfer("b", 0, 0, 5, 0), transfer("c", 0, 5, 0, 0), transfer("a", 0, 0, 0, 4)), Length: 3, Passage: 1}
	// w covers no passage, but counts in the median.
	silent := api.JoinTask{Transfers: transfers(transfer("w", -3, 7), transfer("b", 0, 0, 0, 0, 7), transfer("a", 0, 0, 0, 0, 0)), Length: 4, Passage: 4}
	equal := api.JoinTask{Transfers: transfers(transfer("b", 0, 1, 1, 1), transfer("a", 0, 1, 1, 1), transfer("B", 0, 1, 1), transfer("aa", 0, 1, 1, 1)), Length: 3, Passage: 1}
	for _, v := range []struct {
		t     api.JoinTask
		names []string
		cost  int
	}{
		{example(), []string{"z", "z"}, 0},
		{two, []string{"x", "x"}, 4},
		{changed(two, 0), []string{"x", "x"}, 4},
		{changed(example(), 0), []string{"y", "x"}, 0},
		{changed(example(), 1000000), []string{"z", "z"}, 0},
		{mixed, []string{"a", "a", "b"}, 0},
		{changed(mixed, 3), []string{"a", "a", "b"}, 3},
		{changed(mixed, 4), []string{"a", "a", "a"}, 4},
		{changed(mixed, 1000000), []string{"a", "a", "a"}, 4},
		{silent, []string{"b"}, 0},
		{equal, []string{"B", "B", "a"}, 0},
		{changed(equal, 1), []string{"a", "a", "a"}, 0},
	} {
		expect(t, v, shown(join.BestChoice(v.t)), shown(v.names, v.cost, api.OK))
	}
}

// P7.4, P7.11 and P7.12: by all choices, in any order of the transfers
func TestSomeChoices(t *testing.T) {
	d := dice(6)
	changes, several := 0, 0
	for range 1500 {
		x := someTask(d)
		names, cost := bestOf(x)
		if len(slices.Compact(slices.Clone(names))) > 1 {
			changes++
		}
		best := 0
		choicesOf(x, func(l []string, n int) {
			if n == cost {
				best++
			}
			expect(t, []any{x, l}, shown(join.CostOf(x, l)), shown(n, api.OK))
		})
		if best > 1 {
			several++
		}
		y := x
		y.Transfers = shuffled(d, x.Transfers)
		for _, z := range []api.JoinTask{x, y} {
			expect(t, z, shown(join.CheckTask(z)), shown(api.OK))
			expect(t, z, shown(join.BestChoice(z)), shown(names, cost, api.OK))
			expect(t, z, shown(join.CostOf(z, names)), shown(cost, api.OK))
		}
	}
	if changes < 200 || several < 100 {
		t.Error("too few changes, or several best choices:", changes, several)
	}
}

// P7.4: a choice for a long task has no better neighbour, and those of one transfer cost no less.
func TestLongChoices(t *testing.T) {
	d := dice(7)
	for _, change := range []int{0, 20000, 1000000} {
		x := api.JoinTask{Length: 200, Passage: 10, Change: change}
		for _, name := range []string{"f", "c", "a", "e", "b", "d"} {
			x.Transfers = append(x.Transfers, transfer(name, 0, someNumbers(d, 200, maxSample)...))
		}
		names, cost, e := join.BestChoice(x)
		expect(t, change, shown(join.CostOf(x, names)), shown(cost, e))
		distinct := len(slices.Compact(slices.Clone(names)))
		if change == 0 && distinct < 10 || change == 1000000 && distinct > 1 {
			t.Error(change, names)
		}
		for i := range names {
			for _, y := range x.Transfers {
				other := slices.Clone(names)
				other[i] = y.Name
				n, e := join.CostOf(x, other)
				if n < cost || n == cost && other[i] < names[i] || e != api.OK {
					t.Error(change, names, other, cost, n, e)
				}
			}
		}
	}
}
