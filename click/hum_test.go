package click_test

import (
	"math/big"
	"math/rand/v2"
	"slices"
	"testing"

	"lacquer/api"
	"lacquer/click"
)

func hum(period, phase int, table ...int) api.ClickHum {
	return api.ClickHum{Period: period, Phase: phase, Table: table}
}

// someHum returns a hum whose entries are at most limit in size.
func someHum(d *rand.Rand, limit int) api.ClickHum {
	period := between(d, 1, 64)
	return hum(period, d.IntN(period), someNumbers(d, period, limit)...)
}

// badHum is a hum with its error, which always comes before those that it has, too.
type badHum struct {
	h api.ClickHum
	e api.Errno
}

func humsWithErrors() []badHum {
	l := []badHum{
		{hum(2, 0), api.ErrShape}, {hum(2, 0, 1), api.ErrShape}, {hum(2, 0, 1, 2, 3), api.ErrShape}, {hum(64, 63, make([]int, 63)...), api.ErrShape}, {hum(1, 0, make([]int, 5000)...), api.ErrShape},
		{hum(2, 0, 65535), api.ErrShape}, {hum(2, 2, 1), api.ErrRange}, {hum(0, 0), api.ErrRange}, {hum(0, 0, 1), api.ErrRange}, {hum(65, 0, make([]int, 65)...), api.ErrRange},
	}
	for _, n := range beyond(1, 64) {
		l = append(l, badHum{hum(n, 0, 1), api.ErrRange}, badHum{hum(n, 0), api.ErrRange})
	}
	for _, n := range beyond(0, 1) {
		l = append(l, badHum{hum(2, n, 1, 2), api.ErrRange}, badHum{hum(2, n), api.ErrRange})
	}
	for _, n := range beyond(-65534, 65534) {
		l = append(l, badHum{hum(2, 1, n, 0), api.ErrRange}, badHum{hum(2, 0, 65534, n), api.ErrRange})
	}
	return l
}

// P5.6, example 6
func TestPeriodOf(t *testing.T) {
	for _, v := range []struct {
		x            []int
		lo, hi, want int
		e            api.Errno
	}{
		{[]int{1, 5, 1, 5, 2}, 1, 2, 2, api.OK},
		{[]int{1, 5, 1, 5, 2}, 1, 1, 1, api.OK},
		// The spread for 2 is 1/3, that for 4 is 1. In the next signal both are 0.
		{[]int{1, 5, 1, 5, 2}, 1, 4, 2, api.OK},
		{[]int{1, 5, 1, 5, 2}, 3, 4, 4, api.OK},
		{[]int{1, 5, 1, 5, 1}, 1, 4, 2, api.OK},
		{[]int{1, 5, 1, 5, 1}, 3, 4, 4, api.OK},
		{[]int{0, 0, 0, 0}, 1, 3, 1, api.OK},
		{[]int{0, 0, 0, 0}, 2, 3, 2, api.OK},
		// The sum for 4 is less than that for 3, but 9 / 1 is greater than 13 / 2.
		{[]int{0, 0, 0, 2, 3}, 3, 4, 3, api.OK},
		{[]int{5, 5}, 1, 1, 1, api.OK},
		{slices.Repeat([]int{maxSample, -maxSample}, 100), 1, 64, 2, api.OK},
		{append(slices.Repeat(bad(64, 3, 7), 3), 0), 1, 64, 64, api.OK},
		{make([]int, 65), 64, 64, 64, api.OK},
		{nil, 1, 1, 0, api.ErrShape},
		{[]int{5}, 1, 1, 0, api.ErrShape},
		{[]int{1, 5, 1, 5, 2}, 1, 5, 0, api.ErrShape},
		{[]int{1, 5, 1, 5, 2}, 5, 5, 0, api.ErrShape},
		{make([]int, 64), 1, 64, 0, api.ErrShape},
		{[]int{1, 5, 1, 5, 2}, 2, 1, 0, api.ErrOrder},
		{[]int{1}, 64, 1, 0, api.ErrOrder},
		{nil, 2, 1, 0, api.ErrOrder},
	} {
		expect(t, v, shown(click.PeriodOf(v.x, api.Range{Lo: v.lo, Hi: v.hi})), shown(v.want, v.e))
	}
	for _, n := range beyond(1, 64) {
		for _, r := range ranges(n, 1, 1, n, n, n, 64, n, n, 64) {
			expect(t, r, shown(click.PeriodOf(make([]int, 200), r)), shown(0, api.ErrRange))
			expect(t, r, shown(click.PeriodOf(nil, r)), shown(0, api.ErrRange))
		}
	}
	for _, bad := range signalsWithErrors() {
		for _, r := range ranges(1, 1, 0, 0, 3, 2, 1, 64) {
			expect(t, r, shown(click.PeriodOf(bad.x, r)), shown(0, bad.e))
		}
	}
}

// spreadOf is the document's definition.
func spreadOf(x []int, period int) *big.Rat {
	sum := 0
	for i := 0; i+period < len(x); i++ {
		sum += (x[i+period] - x[i]) * (x[i+period] - x[i])
	}
	return big.NewRat(int64(sum), int64(len(x)-period))
}

// P5.6
func TestPeriodByDefinition(t *testing.T) {
	d := dice(10)
	for range 1000 {
		limit := []int{1, 9, maxSample}[d.IntN(3)]
		x := slices.Repeat(someNumbers(d, between(d, 1, 40), limit), 200)[:between(d, 2, 200)]
		if d.IntN(2) == 0 {
			x[d.IntN(len(x))] = 0
		}
		lo := between(d, 1, min(64, len(x)-1))
		r := api.Range{Lo: lo, Hi: between(d, lo, min(64, len(x)-1))}
		want := r.Lo
		for p := r.Lo; p <= r.Hi; p++ {
			if spreadOf(x, p).Cmp(spreadOf(x, want)) < 0 {
				want = p
			}
		}
		expect(t, x, shown(click.PeriodOf(x, r)), shown(want, api.OK))
	}
}

// P5.6, example 7
func TestHumOf(t *testing.T) {
	for _, v := range []struct {
		x      []int
		period int
		want   api.ClickHum
		e      api.Errno
	}{
		{[]int{1, 5, 1, 5, 2}, 2, hum(2, 0, -1, 3), api.OK},
		{[]int{1, 5, 1, 5, 2}, 5, hum(5, 0, -1, 3, -1, 3, 0), api.OK},
		// A period of 1 has the hum 0.
		{[]int{1, 5, 1, 5, 2}, 1, hum(1, 0, 0), api.OK},
		{[]int{-7}, 1, hum(1, 0, 0), api.OK},
		// Means below 0 are rounded down, too.
		{[]int{-1, -5, -1, -5, -2}, 2, hum(2, 0, 1, -2), api.OK},
		{[]int{-1, 0, 0}, 3, hum(3, 0, 0, 1, 1), api.OK},
		{[]int{maxSample, -maxSample, -maxSample, -maxSample}, 4, hum(4, 0, 49151, -16383, -16383, -16383), api.OK},
		{nil, 1, api.ClickHum{}, api.ErrShape},
		{[]int{1, 5, 1, 5, 2}, 6, api.ClickHum{}, api.ErrShape},
		{make([]int, 63), 64, api.ClickHum{}, api.ErrShape},
		{make([]int, 64), 64, hum(64, 0, make([]int, 64)...), api.OK},
		{[]int{1}, 0, api.ClickHum{}, api.ErrRange},
		{nil, 65, api.ClickHum{}, api.ErrRange},
	} {
		expect(t, v, shown(click.HumOf(v.x, v.period)), shown(v.want, v.e))
	}
	for _, n := range beyond(1, 64) {
		expect(t, n, shown(click.HumOf(make([]int, 200), n)), shown(api.ClickHum{}, api.ErrRange))
	}
	for _, bad := range signalsWithErrors() {
		for _, period := range []int{1, 0, 64, 65} {
			expect(t, period, shown(click.HumOf(bad.x, period)), shown(api.ClickHum{}, bad.e))
		}
	}
}

// meanOf returns the mean of all samples whose index is k modulo the period, rounded down.
func meanOf(x []int, k, period int) int {
	sum, count := int64(0), int64(0)
	for i, sample := range x {
		if i%period == k {
			sum += int64(sample)
			count++
		}
	}
	return floor(big.NewRat(sum, count))
}

// P5.6
func TestHumByDefinition(t *testing.T) {
	d := dice(11)
	for range 1000 {
		x := someNumbers(d, between(d, 1, 200), []int{3, maxSample}[d.IntN(2)])
		period := between(d, 1, min(64, len(x)))
		want := hum(period, 0)
		for k := range period {
			want.Table = append(want.Table, meanOf(x, k, period)-meanOf(x, 0, 1))
		}
		h, e := click.HumOf(x, period)
		expect(t, x, shown(h, e), shown(want, api.OK))
		expect(t, x, shown(click.CheckHum(h)), shown(api.OK))
	}
}

// P5.6
func TestCheckHum(t *testing.T) {
	for _, h := range []api.ClickHum{hum(1, 0, 0), hum(2, 1, -65534, 65534), hum(64, 63, make([]int, 64)...), hum(2, 0, -1, 3)} {
		expect(t, h, shown(click.CheckHum(h)), shown(api.OK))
	}
	for _, bad := range humsWithErrors() {
		expect(t, bad, shown(click.CheckHum(bad.h)), shown(bad.e))
		// The errors of the hum come before those of the signal.
		for _, x := range [][]int{nil, {1, 2, 3}, make([]int, 201), {maxSample + 1}} {
			expect(t, bad, shown(click.Removed(bad.h, x)), shown([]int{}, bad.e))
			expect(t, bad, shown(click.Added(bad.h, x)), shown([]int{}, bad.e))
		}
	}
}

// P5.6 and P5.13, example 7
func TestRemovedAndAdded(t *testing.T) {
	for _, v := range []struct {
		h    api.ClickHum
		x, y []int
	}{
		{hum(2, 0, -1, 3), []int{1, 5, 1, 5, 2}, []int{2, 2, 2, 2, 3}},
		{hum(2, 1, -1, 3), []int{1, 5, 1, 5, 2}, []int{-2, 6, -2, 6, -1}},
		{hum(3, 2, 10, 20, 30), []int{0, 0, 0, 0, 0}, []int{-30, -10, -20, -30, -10}},
		{hum(1, 0, 0), []int{1, -5}, []int{1, -5}},
		{hum(2, 0, -1, 3), nil, nil},
		{hum(64, 63, append(make([]int, 63), 5)...), []int{1, 2, 3}, []int{-4, 2, 3}},
		// The limit is reached, but not exceeded.
		{hum(2, 0, -65534, 65534), []int{-maxSample, maxSample}, []int{maxSample, -maxSample}},
		{hum(2, 0, -1, 1), []int{32766, -32766}, []int{maxSample, -maxSample}},
	} {
		expect(t, v, shown(click.Removed(v.h, v.x)), shown(v.y, api.OK))
		expect(t, v, shown(click.Added(v.h, v.y)), shown(v.x, api.OK))
	}
	for _, x := range [][]int{{maxSample, 0}, {0, -maxSample}, {0, 0, 0, 0, maxSample}} {
		expect(t, x, shown(click.Removed(hum(2, 0, -1, 1), x)), shown([]int{}, api.ErrBreak))
		expect(t, x, shown(click.Added(hum(2, 0, 1, -1), x)), shown([]int{}, api.ErrBreak))
	}
	for _, bad := range signalsWithErrors() {
		expect(t, len(bad.x), shown(click.Removed(hum(1, 0, 65534), bad.x)), shown([]int{}, bad.e))
		expect(t, len(bad.x), shown(click.Added(hum(1, 0, 65534), bad.x)), shown([]int{}, bad.e))
	}
}

// P5.6 and P5.13
func TestHumIsTakenBack(t *testing.T) {
	d := dice(12)
	var counts [2]int
	for range 1000 {
		h := someHum(d, []int{9, 100, 65534}[d.IntN(3)])
		x := someNumbers(d, between(d, 0, 200), []int{9, 32700, maxSample}[d.IntN(3)])
		want := make([]int, len(x))
		wantError := api.OK
		for i := range x {
			want[i] = x[i] - h.Table[(i+h.Phase)%h.Period]
			if want[i] > maxSample || want[i] < -maxSample {
				wantError = api.ErrBreak
			}
		}
		y, e := click.Removed(h, x)
		opposite := hum(h.Period, h.Phase)
		for _, n := range h.Table {
			opposite.Table = append(opposite.Table, -n)
		}
		expect(t, h, shown(click.Added(opposite, x)), shown(y, e))
		if wantError != api.OK {
			counts[1]++
			expect(t, h, shown(y, e), shown([]int{}, wantError))
			continue
		}
		counts[0]++
		expect(t, h, shown(y, e), shown(want, api.OK))
		expect(t, h, shown(click.Added(h, y)), shown(x, api.OK))
		expect(t, h, shown(click.Removed(opposite, y)), shown(x, api.OK))
	}
	if counts[0] < 100 || counts[1] < 100 {
		t.Error("too few are taken back, or break the limit:", counts)
	}
}

// P5.14
func TestPureHum(t *testing.T) {
	d := dice(13)
	for range 500 {
		period := between(d, 1, 64)
		x := slices.Repeat(someNumbers(d, period, []int{9, maxSample}[d.IntN(2)]), between(d, 1, 200/period))
		h, e := click.HumOf(x, period)
		expect(t, x, shown(e), shown(api.OK))
		want := slices.Repeat([]int{meanOf(x, 0, 1)}, len(x))
		expect(t, x, shown(click.Removed(h, x)), shown(want, api.OK))
	}
}
