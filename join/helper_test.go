package join_test

import (
	"fmt"
	"math"
	"math/rand/v2"
	"slices"
	"strings"
	"testing"

	"lacquer/api"
)

const maxSample = 32767

// shown returns the results of a call as a string in which a nil slice and an empty one are alike.
func shown(results ...any) string {
	return fmt.Sprintln(results...)
}

func expect(t *testing.T, what any, got, want string) {
	t.Helper()
	if got != want {
		t.Errorf("%+v: %swant %s", what, got, want)
	}
}

// beyond returns numbers that are just beyond the limits lo and hi, and extreme ones.
func beyond(lo, hi int) []int {
	return []int{lo - 1, hi + 1, math.MinInt, math.MinInt + 1, math.MaxInt - 1, math.MaxInt}
}

// dice returns a source of numbers that are always the same.
func dice(seed uint64) *rand.Rand {
	return rand.New(rand.NewPCG(seed, 7))
}

// between returns a number from lo to hi.
func between(d *rand.Rand, lo, hi int) int {
	return lo + d.IntN(hi-lo+1)
}

// someNumbers returns count numbers of at most limit in size.
func someNumbers(d *rand.Rand, count, limit int) []int {
	var l []int
	for range count {
		l = append(l, between(d, -limit, limit))
	}
	return l
}

// bad returns a slice of zeros with a number at an index.
func bad(count, at, n int) []int {
	x := make([]int, count)
	x[at] = n
	return x
}

// badSignal is a signal with its error.
type badSignal struct {
	x []int
	e api.Errno
}

func signalsWithErrors() []badSignal {
	l := []badSignal{{make([]int, 201), api.ErrLarge}, {bad(201, 0, maxSample+1), api.ErrLarge}, {make([]int, 5000), api.ErrLarge}}
	for _, n := range beyond(-maxSample, maxSample) {
		l = append(l,
			badSignal{[]int{n}, api.ErrRange},
			badSignal{[]int{0, maxSample, -maxSample, n}, api.ErrRange},
			badSignal{bad(200, 199, n), api.ErrRange},
			badSignal{bad(200, 0, n), api.ErrRange})
	}
	return l
}

func transfer(name string, lag int, samples ...int) api.JoinTransfer {
	return api.JoinTransfer{Name: name, Lag: lag, Samples: samples}
}

func transfers(l ...api.JoinTransfer) []api.JoinTransfer {
	return l
}

// three returns the transfers of the example 3.
func three() []api.JoinTransfer {
	return transfers(transfer("x", 0, 5, 9, 5, 5), transfer("y", 1, 0, 5, 5, 5, 9), transfer("z", 0, 5, 5, 5, 5))
}

// example returns the task of the example 4.
func example() api.JoinTask {
	return api.JoinTask{Transfers: three(), Length: 4, Passage: 2, Change: 3}
}

// badTransfers is transfers with their error, and the index of the transfer.
type badTransfers struct {
	l     []api.JoinTransfer
	index int
	e     api.Errno
}

// named returns count transfers with different names.
func named(count int) []api.JoinTransfer {
	var l []api.JoinTransfer
	for i := range count {
		l = append(l, transfer("t"+fmt.Sprint(i), 0, 1, 2, 3))
	}
	return l
}

func wrongNames() []string {
	return []string{"", "1a", "-a", "-", "9", "a_b", "a b", " a", "a ", "\u00e4", "a\u00e4", "a\x00", "a.", "@a", "[a", "`a", "{a", "a/", "a:", "aaaaaaaaaaaaa", strings.Repeat("a", 100000)}
}

func transfersWithErrors() []badTransfers {
	l := []badTransfers{
		{nil, 0, api.ErrShape}, {transfers(), 0, api.ErrShape},
		{named(7), 0, api.ErrLarge}, {make([]api.JoinTransfer, 7), 0, api.ErrLarge}, {named(500), 0, api.ErrLarge},
		{transfers(transfer("a", 0), transfer("a", 0)), 1, api.ErrExists},
		{transfers(transfer("a", 0), transfer("B", 0), transfer("c", 0), transfer("B", 0)), 3, api.ErrExists},
		{append(named(5), transfer("t0", 0)), 5, api.ErrExists},
		// Of several errors the first one.
		{transfers(transfer("a", 0), transfer("a", 101, maxSample+1)), 1, api.ErrExists},
		{transfers(transfer("", 101, make([]int, 201)...), transfer("", 0)), 0, api.ErrName},
		{transfers(transfer("a", -101, make([]int, 201)...)), 0, api.ErrRange},
		{transfers(transfer("a", 0, maxSample+1), transfer("a", 0)), 0, api.ErrRange},
		{transfers(transfer("a", 0), transfer("b", 0, make([]int, 201)...), transfer("", 0)), 1, api.ErrLarge},
	}
	for _, name := range wrongNames() {
		l = append(l, badTransfers{transfers(transfer(name, 0, 1)), 0, api.ErrName}, badTransfers{append(named(4), transfer(name, 0, 1)), 4, api.ErrName})
	}
	for _, lag := range beyond(-100, 100) {
		l = append(l, badTransfers{transfers(transfer("a", lag, 1)), 0, api.ErrRange}, badTransfers{append(named(5), transfer("a", lag)), 5, api.ErrRange})
	}
	for _, x := range signalsWithErrors() {
		l = append(l, badTransfers{transfers(transfer("a", 0, x.x...)), 0, x.e}, badTransfers{append(named(2), transfer("a", 100, x.x...)), 2, x.e})
	}
	return l
}

// badTask is a task with its error.
type badTask struct {
	t api.JoinTask
	e api.Errno
}

func tasksWithErrors() []badTask {
	long := transfers(transfer("a", 0, make([]int, 200)...))
	halves := transfers(transfer("a", 0, 1, 2), transfer("b", -2, 3, 4))
	l := []badTask{
		{api.JoinTask{}, api.ErrShape},
		{api.JoinTask{Transfers: long, Length: 4, Passage: 3}, api.ErrShape},
		{api.JoinTask{Transfers: long, Length: 200, Passage: 199, Change: 5}, api.ErrShape},
		{api.JoinTask{Transfers: long, Length: 21, Passage: 1}, api.ErrLarge},
		{api.JoinTask{Transfers: long, Length: 200, Passage: 8}, api.ErrLarge},
		{api.JoinTask{Transfers: long, Length: 200, Passage: 1}, api.ErrLarge},
		// All positions exist, but nobody has all of the passage.
		{api.JoinTask{Transfers: halves, Length: 4, Passage: 4}, api.ErrGap},
		{api.JoinTask{Transfers: halves, Length: 6, Passage: 2}, api.ErrGap},
		{api.JoinTask{Transfers: halves[1:], Length: 4, Passage: 2}, api.ErrGap},
		{api.JoinTask{Transfers: halves[:1], Length: 3, Passage: 3}, api.ErrGap},
		{api.JoinTask{Transfers: transfers(transfer("a", 0)), Length: 1, Passage: 1}, api.ErrGap},
		{api.JoinTask{Transfers: transfers(transfer("a", 1, 1, 2)), Length: 2, Passage: 1}, api.ErrGap},
		{api.JoinTask{Transfers: transfers(transfer("a", -1, 1, 2)), Length: 2, Passage: 1}, api.ErrGap},
		// Of several errors the first one.
		{api.JoinTask{Transfers: long, Length: 201, Passage: 202, Change: -1}, api.ErrRange},
		{api.JoinTask{Transfers: long, Length: 200, Passage: 3, Change: -1}, api.ErrRange},
		{api.JoinTask{Transfers: halves, Length: 200, Passage: 3}, api.ErrShape},
		{api.JoinTask{Transfers: halves, Length: 200, Passage: 2}, api.ErrLarge},
	}
	for _, n := range beyond(1, 200) {
		l = append(l, badTask{api.JoinTask{Transfers: long, Length: n, Passage: 1}, api.ErrRange}, badTask{api.JoinTask{Transfers: long, Length: n, Passage: n}, api.ErrRange})
	}
	for _, n := range append(beyond(1, 4), 0, 200) {
		l = append(l, badTask{api.JoinTask{Transfers: long, Length: 4, Passage: n}, api.ErrRange})
	}
	for _, n := range beyond(0, 1000000) {
		l = append(l, badTask{api.JoinTask{Transfers: long, Length: 4, Passage: 2, Change: n}, api.ErrRange})
	}
	for _, x := range transfersWithErrors() {
		l = append(l, badTask{api.JoinTask{Transfers: x.l, Length: 1, Passage: 1}, x.e}, badTask{api.JoinTask{Transfers: x.l, Length: -1, Passage: 5, Change: -1}, x.e})
	}
	return l
}

// badChoice is a choice for the task of choicesFor, with its error.
type badChoice struct {
	names []string
	e     api.Errno
}

// choicesFor returns a task in which y covers the passages 0 and 1, x 1 and 2, z none, and choices that have an error for it.
func choicesFor() (api.JoinTask, []badChoice) {
	l := transfers(transfer("x", -2, 1, 2, 3, 4), transfer("y", 1, 0, 5, 6, 7, 8, 9), transfer("z", -1, 1, 2, 3, 0))
	l[2].Samples = l[2].Samples[:2]
	task := api.JoinTask{Transfers: l, Length: 6, Passage: 2, Change: 10}
	return task, []badChoice{
		{nil, api.ErrShape}, {[]string{}, api.ErrShape}, {[]string{"y", "y"}, api.ErrShape}, {[]string{"y", "y", "x", "x"}, api.ErrShape}, {[]string{"a", "b"}, api.ErrShape}, {make([]string, 1000), api.ErrShape},
		{[]string{"", "y", "x"}, api.ErrMissing}, {[]string{"y", "a", "x"}, api.ErrMissing}, {[]string{"y", "y", "X"}, api.ErrMissing}, {[]string{"y", "y", "xx"}, api.ErrMissing}, {[]string{"y", "y", "x "}, api.ErrMissing}, {[]string{"0", "y", "x"}, api.ErrMissing}, {[]string{strings.Repeat("y", 100000), "y", "x"}, api.ErrMissing},
		{[]string{"x", "y", "x"}, api.ErrGap}, {[]string{"y", "y", "y"}, api.ErrGap}, {[]string{"y", "z", "x"}, api.ErrGap}, {[]string{"z", "y", "x"}, api.ErrGap}, {[]string{"y", "x", "z"}, api.ErrGap},
		// Of several errors the first one.
		{[]string{"x", "a", "x"}, api.ErrGap}, {[]string{"a", "z", "x"}, api.ErrMissing}, {[]string{"y", "z", "a"}, api.ErrGap}, {[]string{"y", "a", "y"}, api.ErrMissing},
	}
}

// sampleAt is the document's definition: the sample of a transfer at a position, if it has it.
func sampleAt(x api.JoinTransfer, position int) (int, bool) {
	for index, sample := range x.Samples {
		if index == position+x.Lag {
			return sample, true
		}
	}
	return 0, false
}

// medianAt is the document's definition.
func medianAt(l []api.JoinTransfer, position int) (int, bool) {
	var samples []int
	for _, x := range l {
		if sample, ok := sampleAt(x, position); ok {
			samples = append(samples, sample)
		}
	}
	slices.Sort(samples)
	n := len(samples)
	switch {
	case n == 0:
		return 0, false
	case n%2 == 1:
		return samples[n/2], true
	}
	return int(math.Floor(float64(samples[n/2-1]+samples[n/2]) / 2)), true
}

// deviationOf is the document's definition: the deviation of a transfer in a passage, if it covers it.
func deviationOf(t api.JoinTask, x api.JoinTransfer, passage int) (int, bool) {
	sum := 0
	for position := passage * t.Passage; position <= passage*t.Passage+t.Passage-1; position++ {
		sample, ok := sampleAt(x, position)
		if !ok {
			return 0, false
		}
		median, _ := medianAt(t.Transfers, position)
		sum += int(math.Abs(float64(sample - median)))
	}
	return sum, true
}

// deviationsOf returns for each passage the deviations of the transfers that cover it, by their indexes.
func deviationsOf(t api.JoinTask) []map[int]int {
	var l []map[int]int
	for passage := range t.Length / t.Passage {
		deviations := map[int]int{}
		for i, x := range t.Transfers {
			if deviation, ok := deviationOf(t, x, passage); ok {
				deviations[i] = deviation
			}
		}
		l = append(l, deviations)
	}
	return l
}

// someName returns one of a few names.
func someName(d *rand.Rand) string {
	return []string{"a", "A", "a-", "a1", "ab", "b", "B9", "aa", "z", "Zulu", "b-b", "abcdefghijkl"}[d.IntN(12)]
}

// someTransfers returns 1 to most transfers with about length samples, which are often alike.
func someTransfers(d *rand.Rand, most, length, limit int) []api.JoinTransfer {
	var l []api.JoinTransfer
	for range between(d, 1, most) {
		x := transfer(someName(d), between(d, -3, 3))
		x.Samples = someNumbers(d, max(0, between(d, length-2, length+6)), limit)
		if slices.ContainsFunc(l, func(other api.JoinTransfer) bool { return other.Name == x.Name }) {
			continue
		}
		l = append(l, x)
	}
	return l
}

// someTask returns a small task without errors.
func someTask(d *rand.Rand) api.JoinTask {
	for {
		passages := between(d, 1, 4)
		t := api.JoinTask{Passage: between(d, 1, 3), Change: between(d, 0, 6)}
		t.Length = passages * t.Passage
		t.Transfers = someTransfers(d, 4, t.Length, 3)
		isCovered := true
		for _, deviations := range deviationsOf(t) {
			isCovered = isCovered && len(deviations) > 0
		}
		if isCovered {
			return t
		}
	}
}

// choicesOf yields all choices, in lexicographic order, with their costs.
func choicesOf(t api.JoinTask, yield func(names []string, cost int)) {
	order := slices.Clone(t.Transfers)
	slices.SortFunc(order, func(a, b api.JoinTransfer) int { return strings.Compare(a.Name, b.Name) })
	index := map[string]int{}
	for i, x := range t.Transfers {
		index[x.Name] = i
	}
	deviations := deviationsOf(t)
	var extend func(names []string, cost int)
	extend = func(names []string, cost int) {
		passage := len(names)
		if passage == len(deviations) {
			yield(slices.Clone(names), cost)
			return
		}
		for _, x := range order {
			deviation, ok := deviations[passage][index[x.Name]]
			if !ok {
				continue
			}
			if passage > 0 && names[passage-1] != x.Name {
				deviation += t.Change
			}
			extend(append(slices.Clone(names), x.Name), cost+deviation)
		}
	}
	extend(nil, 0)
}

// bestOf returns the best choice and its cost by trying all.
func bestOf(t api.JoinTask) ([]string, int) {
	var best []string
	least := math.MaxInt
	choicesOf(t, func(names []string, cost int) {
		if cost < least {
			best, least = names, cost
		}
	})
	return best, least
}

// shuffled returns transfers in another order.
func shuffled(d *rand.Rand, l []api.JoinTransfer) []api.JoinTransfer {
	l = slices.Clone(l)
	d.Shuffle(len(l), func(i, j int) { l[i], l[j] = l[j], l[i] })
	return l
}
