package join_test

import (
	"math"
	"math/bits"
	"math/rand/v2"
	"slices"
	"testing"

	"lacquer/api"
	"lacquer/join"
)

func landmarks(l ...[3]int) []api.JoinLandmark {
	var marks []api.JoinLandmark
	for _, n := range l {
		marks = append(marks, api.JoinLandmark{A: n[0], B: n[1], Doubt: n[2]})
	}
	return marks
}

// exampleLandmarks returns the landmarks of the example 2.
func exampleLandmarks() []api.JoinLandmark {
	return landmarks([3]int{10, 15, 1}, [3]int{20, 26, 1}, [3]int{30, 30, 2})
}

// badLandmarks is landmarks with their error, and the index of the landmark.
type badLandmarks struct {
	l     []api.JoinLandmark
	index int
	e     api.Errno
}

func landmarksWithErrors() []badLandmarks {
	good, wrong := [3]int{1, 2, 3}, [3]int{-1, 2, 3}
	l := []badLandmarks{
		{make([]api.JoinLandmark, 13), 0, api.ErrLarge},
		{make([]api.JoinLandmark, 5000), 0, api.ErrLarge},
		{slices.Repeat(landmarks(wrong), 13), 0, api.ErrLarge},
		{landmarks(good, wrong, wrong), 1, api.ErrRange},
	}
	for _, n := range beyond(0, 1000000) {
		for _, mark := range [][3]int{{n, 0, 0}, {0, n, 0}, {0, 0, n}, {n, n, n}} {
			l = append(l,
				badLandmarks{landmarks(mark), 0, api.ErrRange},
				badLandmarks{landmarks(good, good, mark, good), 2, api.ErrRange},
				badLandmarks{append(slices.Repeat(landmarks(good), 11), landmarks(mark)...), 11, api.ErrRange})
		}
	}
	return l
}

// agrees is the document's definition.
func agrees(lag int, x api.JoinLandmark) bool {
	return x.A+lag >= x.B-x.Doubt && x.A+lag <= x.B+x.Doubt
}

// P7.2
func TestCheckLandmarks(t *testing.T) {
	for _, l := range [][]api.JoinLandmark{nil, {}, exampleLandmarks(), make([]api.JoinLandmark, 12), landmarks([3]int{1000000, 1000000, 1000000}, [3]int{0, 0, 0})} {
		expect(t, l, shown(join.CheckLandmarks(l)), shown(0, api.OK))
	}
	for _, bad := range landmarksWithErrors() {
		expect(t, bad, shown(join.CheckLandmarks(bad.l)), shown(bad.index, bad.e))
		expect(t, bad, shown(join.LagsOf(bad.l)), shown(api.Range{}, bad.e))
		expect(t, bad, shown(join.Contradicting(bad.l)), shown([]int{}, bad.e))
		expect(t, bad, shown(join.MostAgreed(bad.l)), shown(0, 0, bad.e))
	}
}

// P7.2, example 2, and the edge cases
func TestLagsOf(t *testing.T) {
	l := exampleLandmarks()
	for _, v := range []struct {
		l    []api.JoinLandmark
		want api.Range
		e    api.Errno
	}{
		{l[:2], api.Range{Lo: 5, Hi: 6}, api.OK},
		{l, api.Range{}, api.ErrClash},
		{l[:1], api.Range{Lo: 4, Hi: 6}, api.OK},
		{l[2:], api.Range{Lo: -2, Hi: 2}, api.OK},
		{nil, api.Range{}, api.ErrShape},
		{landmarks([3]int{5, 5, 0}), api.Range{}, api.OK},
		{landmarks([3]int{5, 5, 1}, [3]int{7, 9, 1}), api.Range{Lo: 1, Hi: 1}, api.OK},
		{landmarks([3]int{5, 5, 1}, [3]int{7, 10, 1}), api.Range{}, api.ErrClash},
		{landmarks([3]int{7, 10, 1}, [3]int{5, 5, 1}), api.Range{}, api.ErrClash},
		// Lags are not limited.
		{landmarks([3]int{1000000, 0, 0}), api.Range{Lo: -1000000, Hi: -1000000}, api.OK},
		{landmarks([3]int{1000000, 0, 1000000}), api.Range{Lo: -2000000, Hi: 0}, api.OK},
		{landmarks([3]int{0, 1000000, 1000000}, [3]int{9, 0, 1000000}), api.Range{Lo: 0, Hi: 999991}, api.OK},
	} {
		expect(t, v, shown(join.LagsOf(v.l)), shown(v.want, v.e))
	}
}

// P7.2, example 2
func TestContradicting(t *testing.T) {
	l := exampleLandmarks()
	for _, v := range []struct {
		l    []api.JoinLandmark
		want []int
		e    api.Errno
	}{
		{l, []int{0, 2}, api.OK},
		{l[1:], []int{0, 1}, api.OK},
		{l[:2], nil, api.ErrNone}, {l[:1], nil, api.ErrNone}, {nil, nil, api.ErrNone}, {[]api.JoinLandmark{}, nil, api.ErrNone},
		{landmarks([3]int{0, 9, 9}, [3]int{0, 4, 4}, [3]int{0, 20, 1}, [3]int{0, 18, 0}), []int{0, 2}, api.OK},
		{landmarks([3]int{0, 9, 9}, [3]int{0, 4, 4}, [3]int{0, 18, 9}, [3]int{0, 18, 0}), []int{1, 2}, api.OK},
		{landmarks([3]int{0, 9, 9}, [3]int{0, 4, 4}, [3]int{0, 17, 9}, [3]int{0, 18, 0}), []int{1, 3}, api.OK},
	} {
		expect(t, v, shown(join.Contradicting(v.l)), shown(v.want, v.e))
	}
}

// P7.2, example 2
func TestMostAgreed(t *testing.T) {
	l := exampleLandmarks()
	for _, v := range []struct {
		l          []api.JoinLandmark
		lag, count int
		e          api.Errno
	}{
		{l, 5, 2, api.OK},
		{l[2:], -2, 1, api.OK},
		{l[1:], -2, 1, api.OK},
		{landmarks([3]int{0, 8, 1}, [3]int{0, 3, 1}, [3]int{0, 20, 0}), 2, 1, api.OK},
		{landmarks([3]int{0, 8, 1}, [3]int{0, 3, 1}, [3]int{0, 8, 0}, [3]int{0, 2, 0}), 2, 2, api.OK},
		{landmarks([3]int{9, 1, 1}, [3]int{9, 2, 1}), -8, 2, api.OK},
		{slices.Repeat(landmarks([3]int{0, 7, 7}), 12), 0, 12, api.OK},
		{landmarks([3]int{1000000, 0, 1000000}), -2000000, 1, api.OK},
		{nil, 0, 0, api.ErrShape},
	} {
		expect(t, v, shown(join.MostAgreed(v.l)), shown(v.lag, v.count, v.e))
	}
}

func someLandmarks(d *rand.Rand) []api.JoinLandmark {
	var l []api.JoinLandmark
	for range between(d, 1, 6) {
		l = append(l, api.JoinLandmark{A: between(d, 0, 12), B: between(d, 0, 12), Doubt: between(d, 0, 8)})
	}
	return l
}

// lagsAgreeing returns for each set of landmarks, which is the bits of a number, the lags that agree with all of them.
func lagsAgreeing(l []api.JoinLandmark) [][]int {
	sets := make([][]int, 1<<len(l))
	for set := range sets {
		for lag := -25; lag <= 25; lag++ {
			agreed := 0
			for i, x := range l {
				if set>>i&1 == 1 && agrees(lag, x) {
					agreed++
				}
			}
			if agreed == bits.OnesCount(uint(set)) {
				sets[set] = append(sets[set], lag)
			}
		}
	}
	return sets
}

// members returns the numbers of the bits of a set.
func members(set int) []int {
	var l []int
	for ; set != 0; set &= set - 1 {
		l = append(l, bits.TrailingZeros(uint(set)))
	}
	return l
}

// contradicting is the document's definition: the minimum set with which no lag agrees.
func contradicting(sets [][]int) []int {
	var least []int
	for set, lags := range sets {
		m := members(set)
		if len(lags) == 0 && (least == nil || len(m) < len(least) || len(m) == len(least) && slices.Compare(m, least) < 0) {
			least = m
		}
	}
	return least
}

// mostAgreed is the document's definition.
func mostAgreed(l []api.JoinLandmark) (best, most int) {
	best = math.MaxInt
	for lag := 25; lag >= -25; lag-- {
		count := 0
		for _, x := range l {
			if agrees(lag, x) {
				count++
			}
		}
		if count >= most {
			best, most = lag, count
		}
	}
	return best, most
}

// P7.2 and P7.9: by the document's definitions, over all lags and all sets
func TestSomeLandmarks(t *testing.T) {
	d := dice(3)
	clashes, agreements := 0, 0
	for range 1000 {
		l := someLandmarks(d)
		sets := lagsAgreeing(l)
		best, most := mostAgreed(l)
		expect(t, l, shown(join.MostAgreed(l)), shown(best, most, api.OK))
		set, e := join.Contradicting(l)
		all := sets[len(sets)-1]
		if len(all) == 0 {
			clashes++
			expect(t, l, shown(join.LagsOf(l)), shown(api.Range{}, api.ErrClash))
			expect(t, l, shown(set, e), shown(contradicting(sets), api.OK))
			if len(set) != 2 || most == len(l) {
				t.Error(l, set, most)
			}
			continue
		}
		agreements++
		expect(t, l, shown(join.LagsOf(l)), shown(api.Range{Lo: all[0], Hi: all[len(all)-1]}, api.OK))
		expect(t, l, shown(set, e), shown([]int{}, api.ErrNone))
		if best != all[0] || most != len(l) {
			t.Error(l, best, most)
		}
	}
	if clashes < 100 || agreements < 100 {
		t.Error(clashes, agreements)
	}
}
