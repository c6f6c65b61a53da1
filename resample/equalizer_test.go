package resample_test

import (
	"math/rand/v2"
	"slices"
	"testing"

	"lacquer/api"
	"lacquer/resample"
)

func equalizer(first, second, den int) api.ResampleEqualizer {
	return api.ResampleEqualizer{First: first, Second: second, Den: den}
}

func someEqualizer(d *rand.Rand) api.ResampleEqualizer {
	limit := []int{3, 20, 500}[d.IntN(3)]
	return equalizer(between(d, -limit, limit), between(d, -limit, limit), between(d, 1, 2*limit))
}

func equalizersWithErrors() []api.ResampleEqualizer {
	l := []api.ResampleEqualizer{{}}
	for _, n := range beyond(-1000, 1000) {
		l = append(l, equalizer(n, 0, 1), equalizer(0, n, 1), equalizer(n, n, 0))
	}
	for _, n := range beyond(1, 1000) {
		l = append(l, equalizer(0, 0, n), equalizer(1, -1, n))
	}
	return l
}

// equalized is the document's definition, up to the first number that exceeds the limit.
func equalized(q api.ResampleEqualizer, x []int) ([]int, api.Errno) {
	before := []int{0, 0}
	for _, input := range x {
		n := len(before)
		before = append(before, input+floorOf(q.Den, q.First, before[n-1], q.Second, before[n-2]))
		if before[n] > maxNumber || before[n] < -maxNumber {
			return nil, api.ErrBreak
		}
	}
	return before[2:], api.OK
}

// restored is the document's definition.
func restored(q api.ResampleEqualizer, y []int) []int {
	all := append([]int{0, 0}, y...)
	var x []int
	for n, output := range y {
		x = append(x, output-floorOf(q.Den, q.First, all[n+1], q.Second, all[n]))
	}
	return x
}

// P4.5
func TestCheckEqualizer(t *testing.T) {
	for _, q := range []api.ResampleEqualizer{equalizer(0, 0, 1), equalizer(1000, 1000, 1), equalizer(-1000, -1000, 1000), equalizer(1, 0, 2)} {
		expect(t, q, shown(resample.CheckEqualizer(q)), shown(api.OK))
	}
	for _, q := range equalizersWithErrors() {
		expect(t, q, shown(resample.CheckEqualizer(q)), shown(api.ErrRange))
	}
}

// P4.5, example 8
func TestEqualized(t *testing.T) {
	for _, v := range []struct {
		q    api.ResampleEqualizer
		x, y []int
	}{
		{equalizer(1, 0, 2), []int{4, 0, 0, -1}, []int{4, 2, 1, -1}},
		{equalizer(-1, 1, 3), []int{3, 0, 0}, []int{3, -1, 1}},
		{equalizer(0, 1, 1), []int{1, 2, 0, 0, 0}, []int{1, 2, 1, 2, 1}},
		{equalizer(1, 0, 2), []int{-1, 0, 0}, []int{-1, -1, -1}},
		{equalizer(0, 0, 7), []int{5, -6, maxSample, -maxSample}, []int{5, -6, maxSample, -maxSample}},
		{equalizer(1, 1, 1), []int{1, 0, 0, 0, 0, 0}, []int{1, 1, 2, 3, 5, 8}},
		{equalizer(1, 1, 1), nil, nil},
		// The limit is reached, but not exceeded.
		{equalizer(1000, 0, 1), []int{1, 0, 0, 0, 0, 0}, []int{1, 1000, 1000000, 1000000000, 1000000000000, maxNumber}},
		{equalizer(1000, 0, 1), []int{-1, 0, 0, 0, 0, 0}, []int{-1, -1000, -1000000, -1000000000, -1000000000000, -maxNumber}},
		{equalizer(1000, 0, 1), []int{1, 0, 0, 0, 0, -1}, []int{1, 1000, 1000000, 1000000000, 1000000000000, maxNumber - 1}},
	} {
		expect(t, v, shown(resample.Equalized(v.q, v.x)), shown(v.y, api.OK))
		expect(t, v, shown(resample.Restored(v.q, v.y)), shown(v.x, api.OK))
	}
	for _, v := range []struct {
		q api.ResampleEqualizer
		x []int
	}{
		{equalizer(1000, 0, 1), []int{1, 0, 0, 0, 0, 1}},
		{equalizer(1000, 0, 1), []int{-1, 0, 0, 0, 0, -1}},
		{equalizer(1000, 0, 1), []int{1, 0, 0, 0, 0, 0, 0}},
		{equalizer(1000, 1000, 1), slices.Repeat([]int{maxSample}, 400)},
		{equalizer(-1000, 1000, 1), slices.Repeat([]int{-maxSample}, 400)},
		{equalizer(0, -1000, 1), append([]int{1, 1}, make([]int, 300)...)},
	} {
		expect(t, v, shown(resample.Equalized(v.q, v.x)), shown([]int{}, api.ErrBreak))
	}
}

// P4.5 and P4.12: by the document's definition, and taken back
func TestEqualizedIsTakenBack(t *testing.T) {
	d := dice(18)
	var counts [2]int
	for range 600 {
		q, x := someEqualizer(d), someNumbers(d, between(d, 1, 150), maxSample)
		want, wantError := equalized(q, x)
		y, e := resample.Equalized(q, x)
		expect(t, q, shown(y, e), shown(want, wantError))
		if e == api.OK {
			counts[0]++
			expect(t, q, shown(resample.Restored(q, y)), shown(x, api.OK))
		} else {
			counts[1]++
		}
	}
	if counts[0] < 100 || counts[1] < 100 {
		t.Error("too few are equalized, or have no output:", counts)
	}
	y, e := resample.Equalized(equalizer(1, 1, 3), make([]int, 400))
	expect(t, "as many as there may be", shown(len(y), e), shown(400, api.OK))
}

// P4.5 and P4.12: any numbers are the output of an input.
func TestRestoredIsEqualizedAgain(t *testing.T) {
	d := dice(19)
	again := 0
	for range 600 {
		q := someEqualizer(d)
		y := someNumbers(d, between(d, 1, 30), []int{100, maxSample, maxNumber}[d.IntN(3)])
		x, e := resample.Restored(q, y)
		expect(t, q, shown(x, e), shown(restored(q, y), api.OK))
		isLarge := func(n int) bool { return n > maxSample || n < -maxSample }
		if !slices.ContainsFunc(x, isLarge) {
			again++
			expect(t, q, shown(resample.Equalized(q, x)), shown(y, api.OK))
		}
	}
	if again < 100 {
		t.Error("too few are equalized again:", again)
	}
	expect(t, "nothing", shown(resample.Restored(equalizer(1, 1, 1), nil)), shown([]int{}, api.OK))
	x, e := resample.Restored(equalizer(1, 1, 1), make([]int, 400))
	expect(t, "as many as there may be", shown(len(x), e), shown(400, api.OK))
}

// P4.5
func TestEqualizerErrors(t *testing.T) {
	for e, signals := range signalsWithErrors(maxSample) {
		for _, x := range signals {
			expect(t, x, shown(resample.Equalized(equalizer(1, 0, 2), x)), shown([]int{}, e))
			expect(t, x, shown(resample.Equalized(equalizer(1000, 1000, 1), x)), shown([]int{}, e))
			for _, q := range equalizersWithErrors() {
				expect(t, q, shown(resample.Equalized(q, x)), shown([]int{}, api.ErrRange))
			}
		}
	}
	for e, lists := range signalsWithErrors(maxNumber) {
		for _, y := range lists {
			expect(t, y, shown(resample.Restored(equalizer(1, 0, 2), y)), shown([]int{}, e))
			for _, q := range equalizersWithErrors() {
				expect(t, q, shown(resample.Restored(q, y)), shown([]int{}, api.ErrRange))
			}
		}
	}
	for _, q := range equalizersWithErrors() {
		expect(t, q, shown(resample.Equalized(q, []int{1, 2})), shown([]int{}, api.ErrRange))
		expect(t, q, shown(resample.Restored(q, []int{1, 2})), shown([]int{}, api.ErrRange))
		expect(t, q, shown(resample.Equalized(q, nil)), shown([]int{}, api.ErrRange))
		expect(t, q, shown(resample.Restored(q, nil)), shown([]int{}, api.ErrRange))
	}
}

// P4.5, example 8, and the edge cases
func TestStableBound(t *testing.T) {
	for _, v := range []struct {
		q               api.ResampleEqualizer
		amplitude, want int
	}{
		{equalizer(1, 0, 2), 100, 200},
		{equalizer(0, -1, 2), 100, 200},
		{equalizer(1, -1, 3), 100, 300},
		{equalizer(-2, 0, 3), 1, 3},
		{equalizer(1, 0, 3), 1, 2},
		{equalizer(1, 0, 3), 2, 3},
		{equalizer(1, 0, 3), 3, 5},
		{equalizer(0, 0, 1), 100, 100},
		{equalizer(0, 0, 1000), maxSample, maxSample},
		{equalizer(0, 0, 7), 0, 0},
		{equalizer(6, 0, 7), 0, 0},
		{equalizer(999, 0, 1000), maxSample, 32767000},
		{equalizer(-500, 499, 1000), maxSample, 32767000},
	} {
		expect(t, v, shown(resample.StableBound(v.q, v.amplitude)), shown(v.want, api.OK))
		expect(t, v, shown(resample.CheckBound(v.q, v.amplitude, v.want)), shown(api.OK))
		if v.want > 0 {
			expect(t, v, shown(resample.CheckBound(v.q, v.amplitude, v.want-1)), shown(api.ErrProof))
		}
	}
	for _, q := range []api.ResampleEqualizer{equalizer(1, 0, 1), equalizer(0, 1, 1), equalizer(1, -1, 2), equalizer(-1, -1, 2), equalizer(1, 1, 1), equalizer(1000, 1000, 1), equalizer(-1000, -1000, 1000), equalizer(2, -1, 2)} {
		for _, amplitude := range []int{0, 1, maxSample} {
			expect(t, q, shown(resample.StableBound(q, amplitude)), shown(0, api.ErrOpen))
		}
	}
	for _, amplitude := range beyond(0, maxSample) {
		expect(t, amplitude, shown(resample.StableBound(equalizer(1, 0, 2), amplitude)), shown(0, api.ErrRange))
		expect(t, amplitude, shown(resample.StableBound(equalizer(1, 0, 1), amplitude)), shown(0, api.ErrRange))
	}
	for _, q := range equalizersWithErrors() {
		for _, amplitude := range append(beyond(0, maxSample), 0, 100) {
			expect(t, q, shown(resample.StableBound(q, amplitude)), shown(0, api.ErrRange))
		}
	}
}

// P4.5
func TestCheckBound(t *testing.T) {
	for _, v := range []struct {
		q                api.ResampleEqualizer
		amplitude, bound int
		e                api.Errno
	}{
		{equalizer(1, 0, 2), 100, 200, api.OK},
		{equalizer(1, 0, 2), 100, 201, api.OK},
		{equalizer(1, 0, 2), 100, 199, api.ErrProof},
		{equalizer(1, 0, 2), 100, 0, api.ErrProof},
		{equalizer(1, 0, 2), 100, maxNumber, api.OK},
		{equalizer(-1, 1, 3), 1, 3, api.OK},
		{equalizer(-1, 1, 3), 1, 2, api.ErrProof},
		// Without an amplitude there are bounds even if the equalizer is not stable.
		{equalizer(1, 0, 1), 0, 0, api.OK},
		{equalizer(1, -1, 2), 0, maxNumber, api.OK},
		{equalizer(1000, 1000, 1), 0, 0, api.OK},
		{equalizer(1, -1, 1), 0, 1, api.ErrProof},
		{equalizer(1000, -1000, 1), maxSample, maxNumber, api.ErrProof},
		{equalizer(1, -1, 2), 1, maxNumber, api.ErrProof},
	} {
		expect(t, v, shown(resample.CheckBound(v.q, v.amplitude, v.bound)), shown(v.e))
	}
	for _, bound := range append(beyond(0, maxNumber), 0, 1000) {
		for _, amplitude := range append(beyond(0, maxSample), 100) {
			for _, q := range equalizersWithErrors() {
				expect(t, q, shown(resample.CheckBound(q, amplitude, bound)), shown(api.ErrRange))
			}
		}
		for _, amplitude := range beyond(0, maxSample) {
			expect(t, amplitude, shown(resample.CheckBound(equalizer(1, 0, 2), amplitude, bound)), shown(api.ErrRange))
		}
	}
	for _, bound := range beyond(0, maxNumber) {
		expect(t, bound, shown(resample.CheckBound(equalizer(1, 0, 2), 0, bound)), shown(api.ErrRange))
	}
}

// P4.5 and P4.13
func TestBoundsHold(t *testing.T) {
	d := dice(20)
	stable := 0
	for range 600 {
		q, amplitude := someEqualizer(d), between(d, 0, []int{3, 50, maxSample}[d.IntN(3)])
		bound, e := resample.StableBound(q, amplitude)
		strength := max(q.First, -q.First) + max(q.Second, -q.Second)
		if strength >= q.Den {
			expect(t, q, shown(bound, e), shown(0, api.ErrOpen))
			continue
		}
		stable++
		expect(t, q, shown(e), shown(api.OK))
		for _, b := range []int{bound - 1, bound, bound + 1, between(d, 0, 100), between(d, 0, 2*bound)} {
			if b < 0 {
				continue
			}
			want := api.ErrProof
			if amplitude-floorOf(q.Den, -strength, b) <= b {
				want = api.OK
			}
			expect(t, q, shown(resample.CheckBound(q, amplitude, b), b >= bound), shown(want, want == api.OK))
		}
		for _, x := range [][]int{someNumbers(d, 400, amplitude), slices.Repeat([]int{amplitude}, 400), slices.Repeat([]int{-amplitude}, 400), slices.Repeat([]int{amplitude, -amplitude}, 200)} {
			y, e := resample.Equalized(q, x)
			if e != api.OK || slices.Max(y) > bound || slices.Min(y) < -bound {
				t.Error(q, amplitude, bound, slices.Max(y), slices.Min(y), e)
			}
		}
	}
	if stable < 100 {
		t.Error("too few equalizers are stable:", stable)
	}
}
