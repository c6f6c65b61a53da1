package groove_test

import (
	"slices"
	"testing"

	"lacquer/api"
	"lacquer/groove"
)

// arePrices is the document's definition.
func arePrices(t api.GrooveTask, p api.GroovePrices) bool {
	for row := range p {
		for column, price := range p[row] {
			if row == 0 && price > t.Strip[0][column] {
				return false
			}
			for other := range p[row] {
				if row == 0 || other < column-1 || other > column+1 {
					continue
				}
				most := t.Strip[row][column] + p[row-1][other]
				if other != column {
					most += t.Bend
				}
				if price > most {
					return false
				}
			}
		}
	}
	return true
}

// greatestPrices returns the prices that are as great as possible.
func greatestPrices(t api.GrooveTask) api.GroovePrices {
	p := api.GroovePrices{slices.Clone(t.Strip[0])}
	for row := 1; row < len(t.Strip); row++ {
		p = append(p, slices.Clone(t.Strip[row]))
		for column := range p[row] {
			least := p[row-1][column]
			for other := max(column-1, 0); other <= min(column+1, len(p[row])-1); other++ {
				if other != column {
					least = min(least, p[row-1][other]+t.Bend)
				}
			}
			p[row][column] += least
		}
	}
	return p
}

func pricesOf(t *testing.T, x api.GrooveTask) api.GroovePrices {
	t.Helper()
	p, e := groove.Prices(x)
	if e != api.OK || len(p) != len(x.Strip) {
		t.Fatal(x, p, e)
	}
	return p
}

func leastCost(t *testing.T, x api.GrooveTask) int {
	t.Helper()
	_, cost, e := groove.BestPath(x)
	if e != api.OK {
		t.Fatal(x, e)
	}
	return cost
}

// P2.4 and P2.10: which prices they are is not specified, but they are valid and prove the cost of the best path.
func TestPrices(t *testing.T) {
	d := dice(13)
	tasks := []api.GrooveTask{example(), task(filled(40, 12, 255), 1000), task([][]int{{9, 3, 5}}, 1000), task([][]int{{7}, {8}}, 0)}
	for range 100 {
		tasks = append(tasks, smallTask(d), largeTask(d))
	}
	for _, x := range tasks {
		p, least := pricesOf(t, x), leastCost(t, x)
		for row := range p {
			if len(p[row]) != len(x.Strip[0]) || slices.Min(p[row]) < -1000000 || slices.Max(p[row]) > 1000000 {
				t.Error(x, row, p[row])
			}
		}
		if !arePrices(x, p) || slices.Min(p[len(p)-1]) != least {
			t.Error(x, p, least)
		}
		expect(t, x, shown(groove.CheckPrices(x, p)), shown(least, api.OK))
	}
}

// P2.4, example 5
func TestCheckPricesOfTheExample(t *testing.T) {
	for _, x := range []struct {
		p     api.GroovePrices
		bound int
		e     api.Errno
	}{
		{api.GroovePrices{{5, 1, 9}, {6, 5, 2}, {13, 5, 5}}, 5, api.OK},
		{api.GroovePrices{{5, 1, 9}, {6, 5, 2}, {13, 6, 5}}, 0, api.ErrProof},
		{api.GroovePrices{{5, 1, 9}, {6, 5, 2}, {14, 5, 5}}, 0, api.ErrProof},
		{api.GroovePrices{{5, 2, 9}, {6, 5, 2}, {13, 5, 5}}, 0, api.ErrProof},
		{api.GroovePrices{{5, 1, 9}, {6, 5, 3}, {13, 5, 5}}, 0, api.ErrProof},
		{api.GroovePrices{{0, 0, 0}, {0, 0, 0}, {0, 0, 0}}, 0, api.OK},
		{api.GroovePrices{{-9, 0, 0}, {-8, -9, 0}, {-9, -8, -9}}, -9, api.OK},
		{api.GroovePrices{{5, 1, 9}, {6, 5, -7}, {13, -4, -4}}, -4, api.OK},
		{api.GroovePrices{{5, 1, 9}, {6, 5, -7}, {13, -5, -4}}, -5, api.OK},
		{api.GroovePrices{{5, 1, 9}, {6, 5, -7}, {13, -4, -3}}, 0, api.ErrProof},
		{api.GroovePrices{{5, 1, 9}, {6, 5, -7}, {13, -3, -4}}, 0, api.ErrProof},
	} {
		expect(t, x.p, shown(groove.CheckPrices(example(), x.p)), shown(x.bound, x.e))
	}
}

// P2.4 and P2.10: prices that are changed are accepted exactly if they still are prices.
func TestChangedPrices(t *testing.T) {
	d := dice(14)
	accepted, refused := 0, 0
	for range 300 {
		x := smallTask(d)
		p := greatestPrices(x)
		for range d.IntN(4) {
			row, column := d.IntN(len(p)), d.IntN(len(p[0]))
			p[row][column] += d.IntN(9) - 6
		}
		want := shown(0, api.ErrProof)
		if arePrices(x, p) {
			want = shown(slices.Min(p[len(p)-1]), api.OK)
			accepted++
			if slices.Min(p[len(p)-1]) > leastCost(t, x) {
				t.Error(x, p)
			}
		} else {
			refused++
		}
		expect(t, []any{x, p}, shown(groove.CheckPrices(x, p)), want)
	}
	if accepted < 50 || refused < 50 {
		t.Error(accepted, refused)
	}
}

// P2.4
func TestErrorsOfPrices(t *testing.T) {
	for _, x := range []struct {
		p api.GroovePrices
		e api.Errno
	}{
		{nil, api.ErrShape}, {api.GroovePrices{}, api.ErrShape}, {filled(2, 3, 0), api.ErrShape}, {filled(4, 3, 0), api.ErrShape}, {filled(4, 3, 1000001), api.ErrShape},
		{filled(3, 0, 0), api.ErrShape}, {filled(3, 2, 0), api.ErrShape}, {filled(3, 4, 0), api.ErrShape}, {filled(3, 4, 1000001), api.ErrShape},
		{api.GroovePrices{{0, 0, 0}, {0, 0}, {0, 0, 0}}, api.ErrShape}, {api.GroovePrices{{0, 0, 0}, {0, 0, 0}, nil}, api.ErrShape},
		{api.GroovePrices{{0, 0, 0}, {0, 0, 0, 0}, {0, 0, 0}}, api.ErrShape}, {api.GroovePrices{{9, 9, 9}, {0, 0, 0}, {0, 0, 0, 1000001}}, api.ErrShape},
		{api.GroovePrices{{0, 0, 1000001}, {0, 0}, {0, 0, 0}}, api.ErrRange}, {api.GroovePrices{{0, 0, 0}, {0, -1000001, 0}, {0}}, api.ErrRange},
		{api.GroovePrices{{9, 9, 9}, {0, 0, 0}, {0, 0, 1000001}}, api.ErrRange},
	} {
		expect(t, x.p, shown(groove.CheckPrices(example(), x.p)), shown(0, x.e))
	}
	for _, n := range beyond(-1000000, 1000000) {
		for row := range 3 {
			p := filled(3, 3, 0)
			p[row][2-row] = n
			expect(t, p, shown(groove.CheckPrices(example(), p)), shown(0, api.ErrRange))
		}
	}
	expect(t, "least prices", shown(groove.CheckPrices(example(), filled(3, 3, -1000000))), shown(-1000000, api.OK))
	expect(t, "greatest prices", shown(groove.CheckPrices(example(), filled(3, 3, 1000000))), shown(0, api.ErrProof))
}
