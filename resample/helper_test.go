package resample_test

import (
	"fmt"
	"math"
	"math/big"
	"math/rand/v2"
	"slices"
	"testing"

	"lacquer/api"
	"lacquer/resample"
)

const (
	maxSample = 32767
	maxTick   = 1000000000000
	maxNumber = 1000000000000000
)

// shown returns the results of a call as a string in which a nil slice and an empty one are alike.
func shown(results ...any) string {
	return fmt.Sprintln(results...)
}

func expect(t *testing.T, what any, got, want string) {
	t.Helper()
	if got != want {
		t.Errorf("%+v: %swant %s", what, got, want)
	}
}

// beyond returns numbers that are just beyond the limits lo and hi, and extreme ones.
func beyond(lo, hi int) []int {
	return []int{lo - 1, hi + 1, math.MinInt, math.MinInt + 1, math.MaxInt - 1, math.MaxInt}
}

// dice returns a source of numbers that are always the same.
func dice(seed uint64) *rand.Rand {
	return rand.New(rand.NewPCG(seed, 4))
}

// between returns a number from lo to hi.
func between(d *rand.Rand, lo, hi int) int {
	return lo + d.IntN(hi-lo+1)
}

// someNumbers returns count numbers of at most limit in size, often the limits themselves.
func someNumbers(d *rand.Rand, count, limit int) []int {
	var l []int
	for range count {
		n := between(d, -limit, limit)
		if d.IntN(4) == 0 {
			n = limit * between(d, -1, 1)
		}
		l = append(l, n)
	}
	return l
}

// ascending returns count different numbers from lo to hi.
func ascending(d *rand.Rand, count, lo, hi int) []int {
	var l []int
	for len(l) < count {
		if n := between(d, lo, hi); !slices.Contains(l, n) {
			l = append(l, n)
		}
	}
	slices.Sort(l)
	return l
}

// mapOf returns a map: for each node a position and a time.
func mapOf(l ...int) api.SpeedMap {
	var m api.SpeedMap
	for node := range slices.Chunk(l, 2) {
		m.Nodes = append(m.Nodes, api.SpeedNode{Position: node[0], Time: node[1]})
	}
	return m
}

func ratio(degree, num, den int) api.ResampleRules {
	return api.ResampleRules{Kind: api.ResampleRatio, Degree: degree, Num: num, Den: den}
}

// mapped returns rules with a map: for each node a position and a time.
func mapped(degree, step int, nodes ...int) api.ResampleRules {
	return api.ResampleRules{Kind: api.ResampleMap, Degree: degree, Step: step, Map: mapOf(nodes...)}
}

// someRules returns rules of both kinds and degrees, with few outputs as well as with many.
func someRules(seed uint64) []api.ResampleRules {
	d := dice(seed)
	var l []api.ResampleRules
	for range 150 {
		degree := 2*d.IntN(2) + 1
		count := between(d, 2, 6)
		m := api.ResampleRules{Kind: api.ResampleMap, Degree: degree}
		last := []int{20, 60, 1000, maxTick}[d.IntN(4)]
		m.Step = max(1, last/between(d, 1, 300))
		times := ascending(d, count, 0, last)
		for i, p := range ascending(d, count, 0, between(d, 5, 50)) {
			m.Map.Nodes = append(m.Map.Nodes, api.SpeedNode{Position: p, Time: times[i]})
		}
		l = append(l, m,
			ratio(degree, between(d, 1, 1000), between(d, 1, 1000)),
			ratio(degree, between(d, 1, 30), between(d, 1, 30)),
			ratio(degree, between(d, 1, 30), between(d, 500, 1000)))
	}
	return l
}

// badRules is rules with their error, which always comes before those that they have, too.
type badRules struct {
	rules api.ResampleRules
	e     api.Errno
}

func rulesWithErrors() []badRules {
	l := []badRules{
		{api.ResampleRules{}, api.ErrKind},
		{api.ResampleRules{Kind: api.ResampleMap}, api.ErrKind},
		{mapped(2, 0, 0, 0), api.ErrKind},
		{api.ResampleRules{Kind: api.ResampleRatio, Degree: 1}, api.ErrRange},
		{api.ResampleRules{Degree: 1, Num: 1, Den: 1, Step: 1}, api.ErrForm},
		{api.ResampleRules{Degree: 1, Num: 1, Den: 1, Step: -1}, api.ErrForm},
		{api.ResampleRules{Degree: 3, Num: 1, Den: 1, Map: mapOf(0, 0)}, api.ErrForm},
		{api.ResampleRules{Degree: 3, Num: 1, Den: 1, Map: mapOf(0, 0, 2, 20)}, api.ErrForm},
		{api.ResampleRules{Degree: 1, Num: 0, Den: 1, Step: 1}, api.ErrRange},
		{api.ResampleRules{Degree: 1, Num: 1, Den: 0, Map: mapOf(0, 0)}, api.ErrRange},
		{mapped(1, 5), api.ErrShape},
		{mapped(1, 0, 0, 0), api.ErrShape},
		{mapped(1, 5, 0, 0, 1000001, 5), api.ErrRange},
		{mapped(3, 5, 0, 0, 5, maxTick+1), api.ErrRange},
		{mapped(3, 0, 0, 0, 0, 5), api.ErrOrder},
		{api.ResampleRules{Kind: api.ResampleMap, Degree: 1, Step: 5, Map: api.SpeedMap{Nodes: make([]api.SpeedNode, 21)}}, api.ErrLarge},
		{api.ResampleRules{Kind: api.ResampleMap, Degree: 1, Num: 1, Den: 1, Map: mapOf(0, 0)}, api.ErrShape},
		{api.ResampleRules{Kind: api.ResampleMap, Degree: 1, Num: 1, Den: 1, Step: 0, Map: mapOf(0, 0, 2, 20)}, api.ErrRange},
		{api.ResampleRules{Kind: api.ResampleMap, Degree: 1, Num: 1, Step: 5, Map: mapOf(0, 0, 2, 20)}, api.ErrForm},
		{api.ResampleRules{Kind: api.ResampleMap, Degree: 1, Den: -1, Step: 5, Map: mapOf(0, 0, 2, 20)}, api.ErrForm},
	}
	for _, n := range beyond(0, 1) {
		l = append(l,
			badRules{api.ResampleRules{Kind: n, Degree: 1, Num: 1, Den: 1}, api.ErrKind},
			badRules{api.ResampleRules{Kind: n, Degree: 1, Step: 5, Map: mapOf(0, 0, 2, 20)}, api.ErrKind})
	}
	for _, n := range append(beyond(1, 3), 2, -3) {
		l = append(l, badRules{ratio(n, 0, 0), api.ErrKind}, badRules{ratio(n, 1, 2), api.ErrKind}, badRules{mapped(n, 5, 0, 0, 2, 20), api.ErrKind})
	}
	for _, n := range beyond(1, 1000) {
		l = append(l, badRules{ratio(1, n, 1), api.ErrRange}, badRules{ratio(3, 1, n), api.ErrRange})
	}
	for _, n := range beyond(1, maxTick) {
		l = append(l, badRules{mapped(1, n, 0, 0, 2, 20), api.ErrRange})
	}
	return l
}

// signalsWithErrors returns signals whose error is ErrLarge, and others whose error is ErrRange.
func signalsWithErrors(limit int) map[api.Errno][][]int {
	long := make([]int, 401)
	worst := make([]int, 401)
	worst[0] = limit + 1
	l := map[api.Errno][][]int{api.ErrLarge: {long, worst}}
	for _, n := range beyond(-limit, limit) {
		l[api.ErrRange] = append(l[api.ErrRange], []int{n}, []int{0, limit, -limit, n}, append(make([]int, 399), n))
	}
	return l
}

// parts returns a fraction as the document writes it.
func parts(num, den int64) *big.Rat {
	return big.NewRat(num, den)
}

// floor returns a number, rounded down.
func floor(x *big.Rat) *big.Int {
	return new(big.Int).Div(x.Num(), x.Denom())
}

// floorOf returns a sum of products, divided by den and rounded down.
func floorOf(den int, factors ...int) int {
	sum := new(big.Int)
	for pair := range slices.Chunk(factors, 2) {
		sum.Add(sum, new(big.Int).Mul(big.NewInt(int64(pair[0])), big.NewInt(int64(pair[1]))))
	}
	return int(sum.Div(sum, big.NewInt(int64(den))).Int64())
}

// sampleAt returns a sample, or the first or the last one where there is none.
func sampleAt(x []int, n int) int {
	switch {
	case n < 0:
		return x[0]
	case n >= len(x):
		return x[len(x)-1]
	}
	return x[n]
}

// valueAt returns what the polynomial through two or four samples around a position has there.
func valueAt(degree int, x []int, position int) *big.Rat {
	n := position / 64
	from, to := n, n+1
	if degree == 3 {
		from, to = n-1, n+2
	}
	sum := new(big.Rat)
	for i := from; i <= to; i++ {
		product := parts(int64(sampleAt(x, i)), 1)
		for j := from; j <= to; j++ {
			if j != i {
				product.Mul(product, parts(int64(position-64*j), int64(64*(i-j))))
			}
		}
		sum.Add(sum, product)
	}
	return sum
}

// outputAt returns the sample for the value at a position.
func outputAt(degree int, x []int, position int) int {
	n := floor(new(big.Rat).Add(valueAt(degree, x, position), parts(1, 2))).Int64()
	return int(max(-maxSample, min(maxSample, n)))
}

// positionsOf returns at most 2001 positions of outputs.
func positionsOf(r api.ResampleRules, count int) []int {
	var l []int
	for k := 0; len(l) <= 2000; k++ {
		var position int
		found := true
		if r.Kind == api.ResampleRatio {
			position = floorOf(r.Den, 64*k, r.Num)
		} else {
			position, found = positionAt(r.Map.Nodes, r.Map.Nodes[0].Time+k*r.Step)
		}
		if !found || position > 64*(count-1) {
			break
		}
		l = append(l, position)
	}
	return l
}

// positionAt returns the position of a time on the lines between nodes, in parts of a sample, rounded down.
func positionAt(nodes []api.SpeedNode, time int) (int, bool) {
	for i, b := range nodes[1:] {
		if a := nodes[i]; time <= b.Time {
			return 64*a.Position + floorOf(b.Time-a.Time, time-a.Time, 64*(b.Position-a.Position)), true
		}
	}
	return 0, false
}

// resampled returns outputs that are expected to exist.
func resampled(t *testing.T, r api.ResampleRules, x []int) []int {
	t.Helper()
	y, e := resample.Resampled(r, x)
	if e != api.OK {
		t.Fatal(r, x, e)
	}
	return y
}
