package transfer_test

import (
	"math"
	"testing"

	"lacquer/api"
	"lacquer/transfer"
)

func carrier(name string, kind, sides, num, den int) api.TransferCarrier {
	return api.TransferCarrier{Name: name, Kind: kind, Sides: sides, Speed: api.Frac{Num: num, Den: den}}
}

func validCarriers() []api.TransferCarrier {
	return []api.TransferCarrier{
		carrier("lp", api.TransferDisc, 2, 100, 3),
		carrier("a", api.TransferDisc, 1, 78, 1),
		carrier("Z", api.TransferDisc, 2, 1, 1),
		carrier("edison-2", api.TransferCylinder, 1, 160, 1),
		carrier("reel-190", api.TransferTape, 1, 381, 2),
		carrier("abcdefghij-9", api.TransferTape, 1, 10000, 1),
		carrier("a-", api.TransferDisc, 1, 1, 10000),
		carrier("q0", api.TransferDisc, 1, 10000, 9999),
		carrier("q--9", api.TransferDisc, 1, 9999, 10000),
	}
}

// P1.1
func TestValidCarriersHaveNoError(t *testing.T) {
	for _, c := range validCarriers() {
		wantError(t, c, transfer.CheckCarrier(c), api.OK)
	}
}

// P1.1
func TestCarrierNames(t *testing.T) {
	for _, name := range []string{"", "abcdefghijklm", "1", "9lp", "-lp", "l p", " lp", "lp ", "l_p", "l.p", "l/p", "lp\x00", "lp\n", "\xe9", "l\xc3\xa9", "l@", "l[", "l`", "l{", "@", "[", "`", "{", "l:"} {
		wantError(t, name, transfer.CheckCarrier(carrier(name, api.TransferDisc, 1, 78, 1)), api.ErrName)
	}
	for _, name := range []string{"A", "z", "a0", "a9", "abcdefghijkl", "M-8"} {
		wantError(t, name, transfer.CheckCarrier(carrier(name, api.TransferDisc, 1, 78, 1)), api.OK)
	}
}

// P1.1
func TestCarrierKindsAndSides(t *testing.T) {
	for _, kind := range append([]int{-1, 3, 4}, extremes...) {
		wantError(t, kind, transfer.CheckCarrier(carrier("lp", kind, 1, 78, 1)), api.ErrKind)
	}
	for kind := range api.TransferCarriers {
		for _, sides := range append([]int{-2, -1, 0, 3}, extremes...) {
			wantError(t, sides, transfer.CheckCarrier(carrier("lp", kind, sides, 78, 1)), api.ErrRange)
		}
	}
	for _, kind := range []int{api.TransferCylinder, api.TransferTape} {
		wantError(t, kind, transfer.CheckCarrier(carrier("lp", kind, 2, 78, 1)), api.ErrForm)
	}
}

// P1.1
func TestCarrierSpeeds(t *testing.T) {
	for _, x := range []struct {
		num, den int
		want     api.Errno
	}{
		{2, 4, api.ErrForm}, {100, 6, api.ErrForm}, {0, 2, api.ErrForm}, {0, 0, api.ErrForm}, {1, 0, api.ErrForm},
		{1, -1, api.ErrForm}, {-1, -1, api.ErrForm}, {-2, 2, api.ErrForm}, {7, 7, api.ErrForm}, {20000, 20000, api.ErrForm},
		{math.MinInt, 2, api.ErrForm}, {1, math.MinInt, api.ErrForm}, {math.MinInt, math.MinInt, api.ErrForm}, {math.MinInt, 0, api.ErrForm},
		{0, 1, api.ErrRange}, {-1, 1, api.ErrRange}, {-100, 3, api.ErrRange}, {10001, 1, api.ErrRange}, {1, 10001, api.ErrRange},
		{math.MinInt, 1, api.ErrRange}, {math.MaxInt, 1, api.ErrRange}, {1, math.MaxInt, api.ErrRange},
	} {
		wantError(t, x, transfer.CheckCarrier(carrier("lp", api.TransferDisc, 1, x.num, x.den)), x.want)
	}
}

// P1.1
func TestCarrierErrorsInOrder(t *testing.T) {
	for _, x := range []struct {
		c    api.TransferCarrier
		want api.Errno
	}{
		{carrier("", 9, 9, 2, 4), api.ErrName},
		{carrier("lp", 9, 9, 2, 4), api.ErrKind},
		{carrier("lp", api.TransferTape, 3, 2, 4), api.ErrRange},
		{carrier("lp", api.TransferTape, 2, 0, 1), api.ErrForm},
		{carrier("lp", api.TransferTape, 1, 20002, 2), api.ErrForm},
		{carrier("lp", api.TransferTape, 1, 20001, 2), api.ErrRange},
	} {
		wantError(t, x.c, transfer.CheckCarrier(x.c), x.want)
	}
}

// P1.1, example 1
func TestSamplesPerTurn(t *testing.T) {
	for _, x := range []struct {
		kind, num, den, rate int
		want                 api.Frac
	}{
		{api.TransferDisc, 100, 3, 48000, api.Frac{Num: 86400, Den: 1}},
		{api.TransferDisc, 78, 1, 44100, api.Frac{Num: 441000, Den: 13}},
		{api.TransferCylinder, 160, 1, 96000, api.Frac{Num: 36000, Den: 1}},
		{api.TransferDisc, 10000, 1, 1, api.Frac{Num: 3, Den: 500}},
		{api.TransferDisc, 7, 11, 200000, api.Frac{Num: 132000000, Den: 7}},
		{api.TransferCylinder, 3, 250, 200000, api.Frac{Num: 1000000000, Den: 1}},
	} {
		f, e := transfer.SamplesPerTurn(carrier("lp", x.kind, 1, x.num, x.den), x.rate)
		if e != api.OK || f != x.want {
			t.Errorf("%v: %v, error %d", x, f, e)
		}
	}
}

// P1.1
func TestSamplesPerTurnErrors(t *testing.T) {
	disc, tape := carrier("lp", api.TransferDisc, 1, 100, 3), carrier("r", api.TransferTape, 1, 381, 2)
	for _, x := range []struct {
		c    api.TransferCarrier
		rate int
		want api.Errno
	}{
		{carrier("", api.TransferTape, 1, 1, 1), 0, api.ErrName},
		{carrier("lp", 3, 1, 1, 1), 0, api.ErrKind},
		{carrier("lp", api.TransferTape, 2, 1, 1), 0, api.ErrForm},
		{tape, 48000, api.ErrKind},
		{tape, 0, api.ErrKind},
		{disc, 0, api.ErrRange},
		{disc, -1, api.ErrRange},
		{disc, 200001, api.ErrRange},
		{disc, math.MinInt, api.ErrRange},
		{disc, math.MaxInt, api.ErrRange},
		{carrier("lp", api.TransferDisc, 1, 1, 10000), 200001, api.ErrRange},
		{carrier("lp", api.TransferDisc, 1, 3, 251), 200000, api.ErrLarge},
		{carrier("lp", api.TransferDisc, 1, 1, 84), 200000, api.ErrLarge},
		{carrier("lp", api.TransferDisc, 1, 1, 1187), 14041, api.ErrLarge},
		{carrier("lp", api.TransferDisc, 1, 1, 10000), 200000, api.ErrLarge},
		{carrier("lp", api.TransferDisc, 1, 9999, 10000), 200000, api.ErrLarge},
	} {
		f, e := transfer.SamplesPerTurn(x.c, x.rate)
		wantError(t, x, e, x.want)
		if f != (api.Frac{}) {
			t.Error(x, f)
		}
	}
}
