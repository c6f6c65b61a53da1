package join_test

import (
	"math"
	"slices"
	"testing"

	"lacquer/api"
	"lacquer/join"
)

// arePrices is the document's definition.
func arePrices(t api.JoinTask, p api.JoinPrices) bool {
	deviations := deviationsOf(t)
	for i, deviation := range deviations[0] {
		if p[0][i] > deviation {
			return false
		}
	}
	for passage := 1; passage < len(deviations); passage++ {
		for i := range deviations[passage-1] {
			for j, deviation := range deviations[passage] {
				most := p[passage-1][i] + deviation
				if i != j {
					most += t.Change
				}
				if p[passage][j] > most {
					return false
				}
			}
		}
	}
	return true
}

// boundOf is the document's definition.
func boundOf(t api.JoinTask, p api.JoinPrices) int {
	deviations := deviationsOf(t)
	last := len(deviations) - 1
	bound := math.MaxInt
	for i := range deviations[last] {
		bound = min(bound, p[last][i])
	}
	return bound
}

func pricesOf(t *testing.T, x api.JoinTask) api.JoinPrices {
	t.Helper()
	p, e := join.Prices(x)
	if e != api.OK || len(p) != x.Length/x.Passage {
		t.Fatal(x, p, e)
	}
	for passage, row := range p {
		if len(row) != len(x.Transfers) || slices.Min(row) < -1000000000 || slices.Max(row) > 1000000000 {
			t.Fatal(x, passage, row)
		}
	}
	return p
}

// P7.5 and P7.12: which prices they are is not specified, but they are valid and prove the cost of the best choice.
func TestPrices(t *testing.T) {
	d := dice(8)
	covered, _ := choicesFor()
	one := api.JoinTask{Transfers: transfers(transfer("a", -1, 7)), Length: 2, Passage: 1, Change: 1000000}
	one.Transfers = append(one.Transfers, transfer("b", 0, 9))
	tasks := []api.JoinTask{example(), covered, one}
	for range 500 {
		tasks = append(tasks, someTask(d))
	}
	for _, x := range tasks {
		p := pricesOf(t, x)
		_, least := bestOf(x)
		if !arePrices(x, p) || boundOf(x, p) != least {
			t.Error(x, p, least)
		}
		expect(t, x, shown(join.CheckPrices(x, p)), shown(least, api.OK))
	}
}

// P7.5: as great as they may be
func TestGreatPrices(t *testing.T) {
	x := api.JoinTask{Length: 200, Passage: 10, Change: 1000000}
	for i, name := range []string{"a", "b", "c", "d"} {
		x.Transfers = append(x.Transfers, transfer(name, 0, slices.Repeat([]int{maxSample * (2*(i%2) - 1)}, 200)...))
	}
	p := pricesOf(t, x)
	expect(t, "great", shown(join.CheckPrices(x, p)), shown(200*maxSample, api.OK))
	// The transfers take turns, so each passage is a change.
	y := api.JoinTask{Length: 200, Passage: 10, Change: 1000000}
	y.Transfers = transfers(transfer("a", 0, slices.Repeat([]int{1}, 100)...), transfer("b", -100, slices.Repeat([]int{2}, 100)...))
	expect(t, "turns", shown(join.CheckPrices(y, pricesOf(t, y))), shown(1000000, api.OK))
}

// P7.5, example 5
func TestCheckPricesOfTheExample(t *testing.T) {
	for _, v := range []struct {
		p     api.JoinPrices
		bound int
		e     api.Errno
	}{
		{api.JoinPrices{{4, 0, 0}, {0, 4, 0}}, 0, api.OK},
		{api.JoinPrices{{4, 0, 0}, {3, 4, 0}}, 0, api.OK},
		{api.JoinPrices{{4, 0, 0}, {4, 4, 0}}, 0, api.ErrProof},
		{api.JoinPrices{{5, 0, 0}, {0, 4, 0}}, 0, api.ErrProof},
		{api.JoinPrices{{4, 1, 0}, {0, 4, 0}}, 0, api.ErrProof},
		{api.JoinPrices{{4, 0, 1}, {0, 4, 0}}, 0, api.ErrProof},
		{api.JoinPrices{{4, 0, 0}, {0, 5, 0}}, 0, api.ErrProof},
		{api.JoinPrices{{4, 0, 0}, {0, 4, 1}}, 0, api.ErrProof},
		{api.JoinPrices{{0, 0, 0}, {0, 0, 0}}, 0, api.OK},
		{api.JoinPrices{{0, 0, 0}, {0, 0, -7}}, -7, api.OK},
		{api.JoinPrices{{0, 0, 0}, {-1000000000, 0, 0}}, -1000000000, api.OK},
		{api.JoinPrices{{-9, 0, 0}, {-9, -2, -6}}, -9, api.OK},
		{api.JoinPrices{{-9, 0, 0}, {-9, -2, -5}}, 0, api.ErrProof},
		{api.JoinPrices{{-9, 0, 0}, {-8, -2, -6}}, 0, api.ErrProof},
		{api.JoinPrices{{-9, 0, 0}, {-9, -1, -6}}, 0, api.ErrProof},
		{api.JoinPrices{{-1000000000, -1000000000, -1000000000}, {-1000000000, -1000000000, -1000000000}}, -1000000000, api.OK},
	} {
		expect(t, v.p, shown(join.CheckPrices(example(), v.p)), shown(v.bound, v.e))
	}
}

// P7.5, and the edge case of transfers that do not cover a passage
func TestPricesThatDoNotMatter(t *testing.T) {
	x := api.JoinTask{Transfers: transfers(transfer("a", 0, 1, 2), transfer("b", 0, 1, 2, 3, 4), transfer("c", -2, 3, 4)), Length: 4, Passage: 2, Change: 5}
	for _, n := range []int{-1000000000, 0, 1000000000} {
		expect(t, n, shown(join.CheckPrices(x, api.JoinPrices{{0, 0, n}, {n, 0, 0}})), shown(0, api.OK))
		expect(t, n, shown(join.CheckPrices(x, api.JoinPrices{{0, 0, n}, {n, 0, 5}})), shown(0, api.OK))
		expect(t, n, shown(join.CheckPrices(x, api.JoinPrices{{0, 0, n}, {n, 0, 6}})), shown(0, api.ErrProof))
	}
	for _, n := range beyond(-1000000000, 1000000000) {
		expect(t, n, shown(join.CheckPrices(x, api.JoinPrices{{0, 0, n}, {0, 0, 0}})), shown(0, api.ErrRange))
		expect(t, n, shown(join.CheckPrices(x, api.JoinPrices{{0, 0, 0}, {n, 0, 0}})), shown(0, api.ErrRange))
	}
}

// P7.5 and P7.12: prices that are changed are accepted exactly if they still are prices.
func TestChangedPrices(t *testing.T) {
	d := dice(9)
	accepted, refused := 0, 0
	for range 1500 {
		x := someTask(d)
		p := pricesOf(t, x)
		for range d.IntN(4) {
			passage, i := d.IntN(len(p)), d.IntN(len(p[0]))
			p[passage][i] += between(d, -6, 2)
		}
		want := shown(0, api.ErrProof)
		if arePrices(x, p) {
			accepted++
			bound := boundOf(x, p)
			want = shown(bound, api.OK)
			if _, least := bestOf(x); bound > least {
				t.Error(x, p, bound, least)
			}
		} else {
			refused++
		}
		expect(t, []any{x, p}, shown(join.CheckPrices(x, p)), want)
	}
	if accepted < 200 || refused < 200 {
		t.Error(accepted, refused)
	}
}

// P7.5
func TestErrorsOfPrices(t *testing.T) {
	const large = 1000000001
	type badPrices struct {
		p api.JoinPrices
		e api.Errno
	}
	l := []badPrices{
		{nil, api.ErrShape}, {api.JoinPrices{}, api.ErrShape}, {api.JoinPrices{{0, 0, 0}}, api.ErrShape}, {api.JoinPrices{{0, 0, 0}, {0, 0, 0}, {0, 0, 0}}, api.ErrShape}, {make(api.JoinPrices, 1000), api.ErrShape},
		{api.JoinPrices{nil, {0, 0, 0}}, api.ErrShape}, {api.JoinPrices{{0, 0, 0}, nil}, api.ErrShape}, {api.JoinPrices{{0, 0}, {0, 0, 0}}, api.ErrShape}, {api.JoinPrices{{0, 0, 0}, {0, 0, 0, 0}}, api.ErrShape},
		// Of several errors the first one.
		{api.JoinPrices{{large, 0, 0}}, api.ErrShape},
		{api.JoinPrices{{large, 0}, {0, 0, 0}}, api.ErrShape},
		{api.JoinPrices{{0, 0, large}, {0, 0}}, api.ErrRange},
		{api.JoinPrices{{0, 0}, {0, 0, large}}, api.ErrShape},
		{api.JoinPrices{{9, 9, 9}, {9, 9, -large}}, api.ErrRange},
		{api.JoinPrices{{9, 9, 9}, {9, 9}}, api.ErrShape},
	}
	for _, n := range beyond(-1000000000, 1000000000) {
		l = append(l, badPrices{api.JoinPrices{{n, 0, 0}, {0, 0, 0}}, api.ErrRange}, badPrices{api.JoinPrices{{0, 0, 0}, {0, 0, n}}, api.ErrRange})
	}
	for _, bad := range l {
		expect(t, bad, shown(join.CheckPrices(example(), bad.p)), shown(0, bad.e))
	}
}
