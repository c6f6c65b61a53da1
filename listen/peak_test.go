package listen_test

import (
	"math/big"
	"testing"

	"lacquer/api"
	"lacquer/listen"
)

// fineBetween returns the fine values after the sample i.
func fineBetween(x []int, i int) []*big.Rat {
	at := func(k int) int {
		if k < 0 || k >= len(x) {
			return 0
		}
		return x[k]
	}
	a, b, c, d := at(i-1), at(i), at(i+1), at(i+2)
	return []*big.Rat{
		quotient(-7*a+105*b+35*c-5*d, 128),
		quotient(-8*a+72*b+72*c-8*d, 128),
		quotient(-5*a+35*b+105*c-7*d, 128),
	}
}

func truePeak(x []int) *big.Rat {
	peak := new(big.Rat)
	take := func(r *big.Rat) {
		if size := new(big.Rat).Abs(r); size.Cmp(peak) > 0 {
			peak = size
		}
	}
	for i, n := range x {
		take(whole(n))
		if i+1 < len(x) {
			for _, r := range fineBetween(x, i) {
				take(r)
			}
		}
	}
	return peak
}

// P9.2, examples 2 and 3
func TestPeaks(t *testing.T) {
	loudest := []int{-maxSample, maxSample, maxSample, -maxSample}
	for _, v := range []struct {
		x        []int
		peak     api.Frac
		headroom api.Frac
	}{
		{[]int{0, 0, 128, 0}, frac(128, 1), frac(32767, 128)},
		{[]int{128, 128}, frac(144, 1), frac(32767, 144)},
		{[]int{-128, -128}, frac(144, 1), frac(32767, 144)},
		{[]int{1, 1}, frac(9, 8), frac(262136, 9)},
		{[]int{7}, frac(7, 1), frac(4681, 1)},
		{[]int{-7}, frac(7, 1), frac(4681, 1)},
		{[]int{-maxSample}, frac(maxSample, 1), frac(1, 1)},
		{[]int{1, 0}, frac(1, 1), frac(maxSample, 1)},
		// The samples before and after two of them.
		{[]int{-8, 8, 8, -8}, frac(10, 1), frac(32767, 10)},
		{[]int{-8, 8, 8}, frac(19, 2), frac(65534, 19)},
		{[]int{8, 8, -8}, frac(19, 2), frac(65534, 19)},
		{loudest, frac(5*maxSample, 4), frac(4, 5)},
		{[]int{0, maxSample, -maxSample, -maxSample, maxSample, 0}, frac(5*maxSample, 4), frac(4, 5)},
		// The peak is at a first, and at a third fine value.
		{[]int{0, 128, 60, 0}, frac(15540, 128), api.Frac{}},
		{[]int{-100, 128, 40, -100}, frac(16040, 128), api.Frac{}},
		{[]int{-100, 40, 128, -100}, frac(16040, 128), api.Frac{}},
	} {
		if v.headroom == (api.Frac{}) {
			peak := truePeak(v.x)
			v.peak, v.headroom = lowest(peak), lowest(new(big.Rat).Quo(whole(maxSample), peak))
		}
		expect(t, v.x, shown(listen.TruePeak(v.x)), shown(v.peak, api.OK))
		expect(t, v.x, shown(listen.Headroom(v.x)), shown(v.headroom, api.OK))
	}
	for _, x := range [][]int{nil, {}, {0}, {0, 0}, make([]int, 200)} {
		expect(t, x, shown(listen.TruePeak(x)), shown(frac(0, 1), api.OK))
		expect(t, x, shown(listen.Headroom(x)), shown(api.Frac{}, api.ErrZero))
	}
}

// P9.2, P9.9, P9.10
func TestSomePeaks(t *testing.T) {
	d := dice(3)
	for range 5000 {
		limit := []int{1, 20, maxSample}[d.IntN(3)]
		x := someSignal(d, d.IntN(6), limit)
		if d.IntN(10) == 0 {
			x = someSignal(d, d.IntN(201), limit)
		}
		for i, n := range x {
			if limit == maxSample && d.IntN(2) == 0 {
				x[i] = []int{-maxSample, maxSample}[n&1]
			}
		}
		want := truePeak(x)
		expect(t, x, shown(listen.TruePeak(x)), shown(lowest(want), api.OK))
		if want.Sign() == 0 {
			expect(t, x, shown(listen.Headroom(x)), shown(api.Frac{}, api.ErrZero))
		} else {
			expect(t, x, shown(listen.Headroom(x)), shown(lowest(new(big.Rat).Quo(whole(maxSample), want)), api.OK))
		}
		opposite, greatest := make([]int, len(x)), 0
		for i, n := range x {
			opposite[i] = -n
			greatest = max(greatest, n, -n)
		}
		expect(t, x, shown(listen.TruePeak(opposite)), shown(listen.TruePeak(x)))
		if want.Cmp(whole(greatest)) < 0 || want.Cmp(quotient(5*greatest, 4)) > 0 {
			t.Error(x, want, greatest)
		}
	}
}

// P9.2
func TestErrorsOfPeaks(t *testing.T) {
	for _, v := range signalsWithErrors() {
		expect(t, v.x, shown(listen.TruePeak(v.x)), shown(api.Frac{}, v.e))
		expect(t, v.x, shown(listen.Headroom(v.x)), shown(api.Frac{}, v.e))
	}
}
