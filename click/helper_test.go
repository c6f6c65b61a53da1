package click_test

import (
	"fmt"
	"math"
	"math/big"
	"math/rand/v2"
	"slices"
	"testing"

	"lacquer/api"
	"lacquer/click"
)

const maxSample = 32767

// shown returns the results of a call as a string in which a nil slice and an empty one are alike.
func shown(results ...any) string {
	return fmt.Sprintln(results...)
}

func expect(t *testing.T, what any, got, want string) {
	t.Helper()
	if got != want {
		t.Errorf("%+v: %swant %s", what, got, want)
	}
}

// beyond returns numbers that are just beyond the limits lo and hi, and extreme ones.
func beyond(lo, hi int) []int {
	return []int{lo - 1, hi + 1, math.MinInt, math.MinInt + 1, math.MaxInt - 1, math.MaxInt}
}

// dice returns a source of numbers that are always the same.
func dice(seed uint64) *rand.Rand {
	return rand.New(rand.NewPCG(seed, 5))
}

// between returns a number from lo to hi.
func between(d *rand.Rand, lo, hi int) int {
	return lo + d.IntN(hi-lo+1)
}

// someNumbers returns count numbers of at most limit in size, often the limits themselves.
func someNumbers(d *rand.Rand, count, limit int) []int {
	var l []int
	for range count {
		n := between(d, -limit, limit)
		if d.IntN(4) == 0 {
			n = limit * between(d, -1, 1)
		}
		l = append(l, n)
	}
	return l
}

// crackling returns a signal of count small samples, some of which are far from the others, alone or several in a row.
func crackling(d *rand.Rand, count int) []int {
	x := someNumbers(d, count, 3)
	for range count / between(d, 6, 30) {
		at := d.IntN(count)
		for i := at; i < min(count, at+between(d, 1, 4)); i++ {
			x[i] = between(d, -100, 100)
		}
	}
	return x
}

// bad returns a slice of zeros with a number at an index.
func bad(count, at, n int) []int {
	x := make([]int, count)
	x[at] = n
	return x
}

// badSignal is a signal with its error.
type badSignal struct {
	x []int
	e api.Errno
}

func signalsWithErrors() []badSignal {
	l := []badSignal{{make([]int, 201), api.ErrLarge}, {bad(201, 0, maxSample+1), api.ErrLarge}, {make([]int, 5000), api.ErrLarge}}
	for _, n := range beyond(-maxSample, maxSample) {
		l = append(l,
			badSignal{[]int{n}, api.ErrRange},
			badSignal{[]int{0, maxSample, -maxSample, n}, api.ErrRange},
			badSignal{bad(200, 199, n), api.ErrRange},
			badSignal{bad(200, 0, n), api.ErrRange})
	}
	return l
}

func median(window, threshold, join, most, percent int) api.ClickRules {
	return api.ClickRules{Kind: api.ClickMedian, Window: window, Threshold: threshold, Join: join, Most: most, Percent: percent}
}

func curve(threshold, join, most, percent int) api.ClickRules {
	return api.ClickRules{Kind: api.ClickCurve, Threshold: threshold, Join: join, Most: most, Percent: percent}
}

// someRules returns rules of a random kind.
func someRules(d *rand.Rand) api.ClickRules {
	threshold, join, most, percent := []int{0, 4, 20, 80}[d.IntN(4)], between(d, 2, 8), between(d, 1, 8), between(d, 0, 100)
	if d.IntN(2) == 0 {
		return curve(2*threshold, join, most, percent)
	}
	return median(between(d, 1, 4), threshold, join, most, percent)
}

// badRules is rules with their error, which always comes before those that they have, too.
type badRules struct {
	rules api.ClickRules
	e     api.Errno
}

func rulesWithErrors() []badRules {
	l := []badRules{
		{api.ClickRules{}, api.ErrRange},
		{api.ClickRules{Kind: api.ClickCurve, Window: 1}, api.ErrForm},
		{api.ClickRules{Kind: api.ClickCurve, Window: -1, Threshold: -1, Join: 99, Most: 99, Percent: 101}, api.ErrForm},
		{api.ClickRules{Kind: api.ClickCurve, Window: 1, Threshold: 1, Join: 2, Most: 1}, api.ErrForm},
		{api.ClickRules{Kind: api.ClickCurve, Window: math.MinInt, Threshold: 1, Join: 2, Most: 1}, api.ErrForm},
	}
	for _, n := range beyond(0, 1) {
		l = append(l, badRules{api.ClickRules{Kind: n}, api.ErrKind}, badRules{api.ClickRules{Kind: n, Window: 1, Threshold: 1, Join: 2, Most: 1, Percent: 1}, api.ErrKind})
	}
	for _, n := range beyond(1, 4) {
		l = append(l, badRules{median(n, 5, 2, 4, 50), api.ErrRange})
	}
	for _, n := range beyond(0, 131068) {
		l = append(l, badRules{median(1, n, 2, 4, 50), api.ErrRange}, badRules{curve(n, 2, 4, 50), api.ErrRange})
	}
	for _, n := range append(beyond(2, 8), 0) {
		l = append(l, badRules{median(1, 5, n, 4, 50), api.ErrRange}, badRules{curve(5, n, 4, 50), api.ErrRange})
	}
	for _, n := range beyond(1, 8) {
		l = append(l, badRules{median(1, 5, 2, n, 50), api.ErrRange}, badRules{curve(5, 2, n, 50), api.ErrRange})
	}
	for _, n := range beyond(0, 100) {
		l = append(l, badRules{median(1, 5, 2, 4, n), api.ErrRange}, badRules{curve(5, 2, 4, n), api.ErrRange})
	}
	return l
}

// ranges returns ranges: for each its ends.
func ranges(ends ...int) []api.Range {
	var l []api.Range
	for pair := range slices.Chunk(ends, 2) {
		l = append(l, api.Range{Lo: pair[0], Hi: pair[1]})
	}
	return l
}

// someMarks returns marks of a signal of count samples, at least two of which are not marked.
func someMarks(d *rand.Rand, count int) []api.Range {
	var marks []api.Range
	left := count
	for lo := d.IntN(3); lo < count && len(marks) < 20; {
		hi := min(count-1, lo+d.IntN(8))
		if left -= hi - lo + 1; left < 2 {
			break
		}
		marks = append(marks, api.Range{Lo: lo, Hi: hi})
		lo = hi + 3 + d.IntN(4)
	}
	return marks
}

// covers tells whether an index is in one of some ranges.
func covers(l []api.Range, i int) bool {
	return slices.ContainsFunc(l, func(r api.Range) bool { return r.Lo <= i && i <= r.Hi })
}

// runsIn returns the ranges of runs.
func runsIn(l []api.ClickRun) []api.Range {
	var runs []api.Range
	for _, r := range l {
		runs = append(runs, r.Run)
	}
	return runs
}

// whole returns a signal as real numbers.
func whole(x []int) []*big.Rat {
	var l []*big.Rat
	for _, n := range x {
		l = append(l, big.NewRat(int64(n), 1))
	}
	return l
}

// floor returns a number, rounded down.
func floor(x *big.Rat) int {
	return int(new(big.Int).Div(x.Num(), x.Denom()).Int64())
}

// secondAt returns the second difference of a signal of real numbers, of which there may be none.
func secondAt(x []*big.Rat, i int) *big.Rat {
	sum := new(big.Rat)
	if i >= 1 && i < len(x)-1 {
		sum.Add(x[i-1], x[i+1])
		sum.Sub(sum, x[i])
		sum.Sub(sum, x[i])
	}
	return sum
}

// energyIn returns the energy of a signal of real numbers.
func energyIn(x []*big.Rat) *big.Rat {
	sum := new(big.Rat)
	for i := range x {
		second := secondAt(x, i)
		sum.Add(sum, new(big.Rat).Mul(second, second))
	}
	return sum
}

// proofSum returns what is 0 of mended values.
func proofSum(x []*big.Rat, i int) *big.Rat {
	sum := new(big.Rat).Add(secondAt(x, i-1), secondAt(x, i+1))
	second := secondAt(x, i)
	sum.Sub(sum, second)
	return sum.Sub(sum, second)
}

// exact returns mends that are expected to exist.
func exact(t *testing.T, x []int, marks []api.Range) []api.ClickMend {
	t.Helper()
	l, e := click.Exact(x, marks)
	if e != api.OK {
		t.Fatal(x, marks, e)
	}
	return l
}

// withValues returns a signal with the values of mends in place of its samples.
func withValues(x []int, l []api.ClickMend) []*big.Rat {
	y := whole(x)
	for _, mend := range l {
		for i, num := range mend.Nums {
			y[mend.From+i] = big.NewRat(int64(num), int64(mend.Den))
		}
	}
	return y
}
