package resample_test

import (
	"math/big"
	"testing"

	"lacquer/api"
	"lacquer/resample"
)

var degrees = [2]int{1, 3}

// wrongDegrees are those that there are not.
func wrongDegrees() []int {
	return append(beyond(1, 3), 2, -1, -3)
}

// P4.2, example 2
func TestWeightsAt(t *testing.T) {
	for _, x := range []struct {
		degree, fraction int
		weights          []int
		den              int
	}{
		{1, 0, []int{64, 0}, 64},
		{1, 32, []int{32, 32}, 64},
		{1, 42, []int{22, 42}, 64},
		{1, 63, []int{1, 63}, 64},
		{3, 0, []int{0, 1572864, 0, 0}, 1572864},
		{3, 32, []int{-98304, 884736, 884736, -98304}, 1572864},
		{3, 1, []int{-8001, 1560195, 24765, -4095}, 1572864},
		{3, 63, []int{-4095, 24765, 1560195, -8001}, 1572864},
	} {
		expect(t, x, shown(resample.WeightsAt(x.degree, x.fraction)), shown(x.weights, x.den, api.OK))
	}
	for _, degree := range wrongDegrees() {
		for _, fraction := range append(beyond(0, 63), 0, 32) {
			expect(t, degree, shown(resample.WeightsAt(degree, fraction)), shown([]int{}, 0, api.ErrKind))
		}
	}
	for _, fraction := range beyond(0, 63) {
		for _, degree := range degrees {
			expect(t, fraction, shown(resample.WeightsAt(degree, fraction)), shown([]int{}, 0, api.ErrRange))
		}
	}
}

// P4.7, and the weights as values of signals with a single 1
func TestAllWeights(t *testing.T) {
	for _, degree := range degrees {
		for fraction := range 64 {
			weights, den, e := resample.WeightsAt(degree, fraction)
			expect(t, degree, shown(len(weights), e), shown(degree+1, api.OK))
			sum := 0
			for i, weight := range weights {
				sum += weight
				x := make([]int, 6)
				x[2-degree/2+i] = 1
				want := valueAt(degree, x, 128+fraction)
				if want.Cmp(parts(int64(weight), int64(den))) != 0 {
					t.Error(degree, fraction, i, weight, want)
				}
			}
			expect(t, fraction, shown(sum), shown(den))
		}
	}
}

// P4.2, examples 1 and 2
func TestValueAt(t *testing.T) {
	x := []int{0, 10, 20, 40}
	for _, v := range []struct {
		degree   int
		x        []int
		position int
		num, den int
	}{
		{1, x, 96, 960, 64},
		{1, x, 170, 2120, 64},
		{3, x, 96, 22609920, 1572864},
		{1, x, 0, 0, 64},
		{1, x, 191, 2540, 64},
		{1, x, 192, 2560, 64},
		{3, x, 192, 62914560, 1572864},
		{3, x, 32, 884736*10 - 98304*20, 1572864},
		{3, x, 160, -98304*10 + 884736*20 + 884736*40 - 98304*40, 1572864},
		{1, []int{7}, 0, 448, 64},
		{3, []int{-7}, 0, -11010048, 1572864},
		{3, []int{8, 16}, 32, 12 * 1572864, 1572864},
	} {
		expect(t, v, shown(resample.ValueAt(v.degree, v.x, v.position)), shown(v.num, v.den, api.OK))
	}
}

// P4.2 and P4.7: all positions, by the document's definitions
func TestValueAtAllPositions(t *testing.T) {
	d := dice(9)
	for _, count := range []int{1, 2, 3, 4, 5, 8, 400} {
		x := someNumbers(d, count, maxSample)
		for _, degree := range degrees {
			for position := 0; position <= 64*(count-1); position += 1 + count/100 {
				num, den, e := resample.ValueAt(degree, x, position)
				if e != api.OK || parts(int64(num), int64(den)).Cmp(valueAt(degree, x, position)) != 0 || den != []int{64, 1572864}[degree/2] {
					t.Error(x, degree, position, num, den, e)
				}
				if position%64 == 0 && num != x[position/64]*den {
					t.Error(x, degree, position, num, den)
				}
			}
			for _, position := range beyond(0, 64*(count-1)) {
				expect(t, x, shown(resample.ValueAt(degree, x, position)), shown(0, 0, api.ErrRange))
			}
		}
	}
}

// P4.2
func TestValueAtErrors(t *testing.T) {
	for _, position := range append(beyond(0, 0), 0) {
		for _, degree := range degrees {
			expect(t, position, shown(resample.ValueAt(degree, nil, position)), shown(0, 0, api.ErrRange))
		}
		for e, signals := range signalsWithErrors(maxSample) {
			for _, x := range signals {
				expect(t, x, shown(resample.ValueAt(3, x, position)), shown(0, 0, e))
				for _, degree := range wrongDegrees() {
					expect(t, degree, shown(resample.ValueAt(degree, x, position)), shown(0, 0, api.ErrKind))
				}
			}
		}
	}
	for _, degree := range wrongDegrees() {
		expect(t, degree, shown(resample.ValueAt(degree, []int{1, 2}, 0)), shown(0, 0, api.ErrKind))
	}
}

// remainder is the document's definition.
func remainder(degree, f int) *big.Rat {
	if degree == 1 {
		return parts(int64(f*(f-64)), 8192)
	}
	return parts(int64((f+64)*f*(f-64)*(f-128)), 402653184)
}

// P4.3, example 6
func TestRemainderAt(t *testing.T) {
	expect(t, 1, shown(resample.RemainderAt(1, 32)), shown(api.Frac{Num: -1, Den: 8}, api.OK))
	expect(t, 3, shown(resample.RemainderAt(3, 32)), shown(api.Frac{Num: 3, Den: 128}, api.OK))
	expect(t, 1, shown(resample.RemainderAt(1, 63)), shown(api.Frac{Num: -63, Den: 8192}, api.OK))
	for _, degree := range degrees {
		expect(t, degree, shown(resample.RemainderAt(degree, 0)), shown(api.Frac{Num: 0, Den: 1}, api.OK))
		for fraction := range 64 {
			want := remainder(degree, fraction)
			f := api.Frac{Num: int(want.Num().Int64()), Den: int(want.Denom().Int64())}
			expect(t, fraction, shown(resample.RemainderAt(degree, fraction)), shown(f, api.OK))
		}
		for _, fraction := range beyond(0, 63) {
			expect(t, fraction, shown(resample.RemainderAt(degree, fraction)), shown(api.Frac{}, api.ErrRange))
		}
	}
	for _, degree := range wrongDegrees() {
		for _, fraction := range append(beyond(0, 63), 0, 32) {
			expect(t, degree, shown(resample.RemainderAt(degree, fraction)), shown(api.Frac{}, api.ErrKind))
		}
	}
}

// P4.3 and P4.8
func TestMaximumRemainder(t *testing.T) {
	for i, want := range []api.Frac{{Num: 1, Den: 8}, {Num: 3, Den: 128}} {
		expect(t, degrees[i], shown(resample.MaximumRemainder(degrees[i])), shown(want, api.OK))
		most := new(big.Rat)
		for fraction := range 64 {
			if r := new(big.Rat).Abs(remainder(degrees[i], fraction)); r.Cmp(most) > 0 {
				most = r
			}
		}
		if most.Cmp(parts(int64(want.Num), int64(want.Den))) != 0 {
			t.Error(degrees[i], most)
		}
	}
	for _, degree := range wrongDegrees() {
		expect(t, degree, shown(resample.MaximumRemainder(degree)), shown(api.Frac{}, api.ErrKind))
	}
}

// P4.3, example 6
func TestDifferences(t *testing.T) {
	x := []int{0, 10, 20, 40}
	for _, v := range []struct {
		x     []int
		order int
		want  []int
	}{
		{x, 1, []int{10, 10, 20}}, {x, 2, []int{0, 10}}, {x, 3, []int{10}}, {x, 4, nil},
		{nil, 1, nil}, {nil, 4, nil}, {[]int{5}, 1, nil}, {[]int{5, 3}, 1, []int{-2}}, {[]int{5, 3}, 2, nil}, {[]int{5, 3}, 4, nil},
		{[]int{1, 16, 81, 256, 625, 1296}, 4, []int{24, 24}},
		{[]int{32767, -32767, 32767, -32767, 32767}, 4, []int{524272}},
		{[]int{-32767, 32767, -32767, 32767, -32767}, 4, []int{-524272}},
	} {
		expect(t, v, shown(resample.Differences(v.x, v.order)), shown(v.want, api.OK))
	}
	for _, order := range append(beyond(1, 4), 1, 4) {
		for e, signals := range signalsWithErrors(maxSample) {
			for _, x := range signals {
				expect(t, x, shown(resample.Differences(x, order)), shown([]int{}, e))
			}
		}
	}
	for _, order := range beyond(1, 4) {
		expect(t, order, shown(resample.Differences(x, order)), shown([]int{}, api.ErrRange))
		expect(t, order, shown(resample.Differences(nil, order)), shown([]int{}, api.ErrRange))
	}
}

// P4.3: each order by the one below it
func TestDifferencesOfSomeSignals(t *testing.T) {
	d := dice(10)
	for _, count := range []int{1, 3, 4, 5, 30, 400} {
		before := someNumbers(d, count, maxSample)
		x := before
		for order := 1; order <= 4; order++ {
			var want []int
			for i := range max(0, len(before)-1) {
				want = append(want, before[i+1]-before[i])
			}
			expect(t, count, shown(resample.Differences(x, order)), shown(want, api.OK))
			before = want
		}
	}
}

// polynomial returns the value of a polynomial at a number of parts of a sample.
func polynomial(coefficients []int, position int) *big.Rat {
	sum := new(big.Rat)
	for i := len(coefficients) - 1; i >= 0; i-- {
		sum.Mul(sum, parts(int64(position), 64))
		sum.Add(sum, parts(int64(coefficients[i]), 1))
	}
	return sum
}

// P4.8: polynomials are exact, but for the remainder times the difference of the next order.
func TestPolynomials(t *testing.T) {
	d := dice(11)
	const count = 8
	for range 200 {
		degree := degrees[d.IntN(2)]
		coefficients := []int{between(d, -1000, 1000), between(d, -1000, 1000), between(d, -100, 100), between(d, -20, 20), between(d, -5, 5)}
		coefficients = coefficients[:between(d, 1, degree+2)]
		var x []int
		for n := range count {
			x = append(x, int(polynomial(coefficients, 64*n).Num().Int64()))
		}
		differences, e := resample.Differences(x, degree+1)
		if e != api.OK {
			t.Fatal(x, e)
		}
		for position := 64 * (degree / 2); position <= 64*(count-1-degree/2); position++ {
			num, den, _ := resample.ValueAt(degree, x, position)
			f, _ := resample.RemainderAt(degree, position%64)
			want := parts(int64(f.Num*differences[0]), int64(f.Den))
			want.Add(want, parts(int64(num), int64(den)))
			if want.Cmp(polynomial(coefficients, position)) != 0 {
				t.Error(degree, coefficients, position, want)
			}
			if len(coefficients) <= degree+1 && differences[0] != 0 {
				t.Error(degree, coefficients, differences)
			}
		}
	}
}
