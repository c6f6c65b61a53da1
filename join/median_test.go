package join_test

import (
	"slices"
	"strings"
	"testing"

	"lacquer/api"
	"lacquer/join"
)

// damage returns a damage: the first and the last one of its positions.
func damage(name string, lo, hi int) api.JoinDamage {
	return api.JoinDamage{Name: name, Positions: api.Range{Lo: lo, Hi: hi}}
}

func damages(l ...api.JoinDamage) []api.JoinDamage {
	return l
}

// damagedIn is the document's definition.
func damagedIn(l []api.JoinTransfer, length, limit int) []api.JoinDamage {
	var found []api.JoinDamage
	for _, x := range l {
		isDamaged := func(position int) bool {
			sample, ok := sampleAt(x, position)
			median, _ := medianAt(l, position)
			return ok && position >= 0 && position < length && max(sample-median, median-sample) > limit
		}
		for lo := range length {
			if !isDamaged(lo) || isDamaged(lo-1) {
				continue
			}
			hi := lo
			for isDamaged(hi + 1) {
				hi++
			}
			found = append(found, damage(x.Name, lo, hi))
		}
	}
	slices.SortStableFunc(found, func(a, b api.JoinDamage) int { return strings.Compare(a.Name, b.Name) })
	return found
}

// P7.3
func TestCheckTransfers(t *testing.T) {
	for _, l := range [][]api.JoinTransfer{
		three(), named(6), transfers(transfer("a", 100), transfer("A", -100, slices.Repeat([]int{maxSample}, 200)...), transfer("b", 0, -maxSample)),
		transfers(transfer("abcdefghijkl", 0), transfer("Z-9", 0), transfer("z--", 0), transfer("a0", 0), transfer("az", 0), transfer("aAZ", 0)),
	} {
		expect(t, l, shown(join.CheckTransfers(l)), shown(0, api.OK))
	}
	for _, bad := range transfersWithErrors() {
		expect(t, bad, shown(join.CheckTransfers(bad.l)), shown(bad.index, bad.e))
		for _, length := range []int{1, 0} {
			expect(t, bad, shown(join.Median(bad.l, length)), shown([]int{}, bad.e))
			expect(t, bad, shown(join.DamagedIn(bad.l, length, length-1)), shown(damages(), bad.e))
		}
	}
}

// P7.3, example 3, and the edge cases
func TestMedian(t *testing.T) {
	one := transfers(transfer("a", 1, 9, 8, 7))
	for _, v := range []struct {
		l      []api.JoinTransfer
		length int
		want   []int
		e      api.Errno
	}{
		{three(), 4, []int{5, 5, 5, 5}, api.OK},
		{three(), 1, []int{5}, api.OK},
		{three()[:2], 4, []int{5, 7, 5, 7}, api.OK},
		{three(), 5, nil, api.ErrGap},
		{one, 2, []int{8, 7}, api.OK}, {one, 3, nil, api.ErrGap},
		{transfers(transfer("a", -1, 9, 8)), 1, nil, api.ErrGap},
		{transfers(transfer("a", 0)), 1, nil, api.ErrGap},
		{append(one, transfer("b", -2, 5)), 3, []int{8, 7, 5}, api.OK},
		{append(one, transfer("b", -3, 5)), 4, nil, api.ErrGap},
		// The mean of two is rounded down.
		{transfers(transfer("a", 0, -1, 0, 1, 1, -3, maxSample, -maxSample, -maxSample), transfer("b", 0, 0, 1, 2, -2, -4, maxSample, -maxSample, maxSample)), 8, []int{-1, 0, 1, -1, -4, maxSample, -maxSample, 0}, api.OK},
		{transfers(transfer("a", 0, 9, 1), transfer("b", 0, -9, 1), transfer("c", 0, 4, 2), transfer("d", 0, 1, 3)), 2, []int{2, 1}, api.OK},
		{transfers(transfer("a", 0, 9), transfer("b", 0, -9), transfer("c", 0, 4), transfer("d", 0, 1), transfer("e", 0, 3), transfer("f", 0, -7)), 1, []int{2}, api.OK},
		{transfers(transfer("a", 0, 9), transfer("b", 0, -9), transfer("c", 0, 4), transfer("d", 0, 1), transfer("e", 0, 3)), 1, []int{3}, api.OK},
		{transfers(transfer("a", 0, make([]int, 200)...)), 200, make([]int, 200), api.OK},
	} {
		expect(t, v, shown(join.Median(v.l, v.length)), shown(v.want, v.e))
	}
	for _, length := range beyond(1, 200) {
		expect(t, length, shown(join.Median(three(), length)), shown([]int{}, api.ErrRange))
		expect(t, length, shown(join.DamagedIn(three(), length, -1)), shown(damages(), api.ErrRange))
	}
}

// P7.3, example 3
func TestDamagedIn(t *testing.T) {
	runs := transfers(transfer("b", 0, 9, 9, 0, 9, 2), transfer("a", 2, 0, 0, 0, 9, 0, 0, -9), transfer("c", 0, 0, 0, 0, 0, 0), transfer("B", 0, 0, 0, 0, 0, 0))
	for _, v := range []struct {
		l             []api.JoinTransfer
		length, limit int
		want          []api.JoinDamage
		e             api.Errno
	}{
		{three(), 4, 1, damages(damage("x", 1, 1), damage("y", 3, 3)), api.OK},
		{three(), 4, 3, damages(damage("x", 1, 1), damage("y", 3, 3)), api.OK},
		{three(), 4, 4, nil, api.OK},
		{three(), 3, 1, damages(damage("x", 1, 1)), api.OK},
		{three(), 5, 1, nil, api.ErrGap},
		{runs, 5, 2, damages(damage("B", 1, 1), damage("a", 1, 1), damage("a", 4, 4), damage("b", 0, 1), damage("b", 3, 3), damage("c", 1, 1)), api.OK},
		{runs, 5, 1, damages(damage("B", 1, 1), damage("a", 1, 1), damage("a", 4, 4), damage("b", 0, 1), damage("b", 3, 4), damage("c", 1, 1)), api.OK},
		{runs, 2, 0, damages(damage("B", 1, 1), damage("a", 1, 1), damage("b", 0, 1), damage("c", 1, 1)), api.OK},
		{transfers(transfer("a", 0, maxSample), transfer("b", 0, -maxSample), transfer("c", 0, maxSample)), 1, 2*maxSample - 1, damages(damage("b", 0, 0)), api.OK},
		{transfers(transfer("a", 0, maxSample), transfer("b", 0, -maxSample), transfer("c", 0, maxSample)), 1, 2 * maxSample, nil, api.OK},
		// Neighbouring positions of two transfers are two ranges.
		{transfers(transfer("a", 0, 9, 0), transfer("b", 0, 0, 9), transfer("c", 0, 0, 0)), 2, 1, damages(damage("a", 0, 0), damage("b", 1, 1)), api.OK},
	} {
		expect(t, v, shown(join.DamagedIn(v.l, v.length, v.limit)), shown(v.want, v.e))
	}
	for _, limit := range beyond(0, 2*maxSample) {
		expect(t, limit, shown(join.DamagedIn(three(), 4, limit)), shown(damages(), api.ErrRange))
		expect(t, limit, shown(join.DamagedIn(three(), 5, limit)), shown(damages(), api.ErrGap))
	}
}

// P7.3 and P7.11: by the document's definitions, in any order
func TestSomeMedians(t *testing.T) {
	d := dice(4)
	gaps, damaged := 0, 0
	for n := range 1500 {
		limit := []int{1, 3, 10, maxSample}[n%4]
		l, length := someTransfers(d, 6, 8, limit), between(d, 1, 9)
		var want []int
		e := api.OK
		for position := range length {
			median, ok := medianAt(l, position)
			if !ok {
				want, e = nil, api.ErrGap
				break
			}
			want = append(want, median)
		}
		bound := between(d, 0, limit)
		var found []api.JoinDamage
		if e == api.OK {
			found = damagedIn(l, length, bound)
			damaged += len(found)
		} else {
			gaps++
		}
		for _, m := range [][]api.JoinTransfer{l, shuffled(d, l)} {
			expect(t, m, shown(join.Median(m, length)), shown(want, e))
			expect(t, m, shown(join.DamagedIn(m, length, bound)), shown(found, e))
		}
	}
	if gaps < 100 || damaged < 1000 {
		t.Error(gaps, damaged)
	}
}

// P7.10
func TestOneOfThreeIsDamaged(t *testing.T) {
	d := dice(5)
	for range 300 {
		x := someNumbers(d, 6, 40)
		l := shuffled(d, transfers(transfer("a", 0, x...), transfer("b", 1, append([]int{7}, x...)...), transfer("c", 0, someNumbers(d, 6, 40)...)))
		expect(t, l, shown(join.Median(l, 6)), shown(x, api.OK))
		found, e := join.DamagedIn(l, 6, d.IntN(20))
		if e != api.OK || slices.ContainsFunc(found, func(x api.JoinDamage) bool { return x.Name != "c" }) {
			t.Error(l, found, e)
		}
	}
}
