package transfer_test

import (
	"slices"
	"strings"
	"testing"

	"lacquer/api"
	"lacquer/transfer"
)

// bits returns the bits of a string of "0" and "1" with blanks.
func bits(s string) []int {
	var l []int
	for _, c := range s {
		if c != ' ' {
			l = append(l, int(c-'0'))
		}
	}
	return l
}

// bitsWith is the document's definition of the bits with a predictor and a parameter, written out.
func bitsWith(x [8]int, predictor, parameter int) []int {
	binary := func(n, count int) string {
		s := ""
		for range count {
			s = string(rune('0'+n%2)) + s
			n /= 2
		}
		return s
	}
	s := binary(predictor, 2) + binary(parameter, 5)
	before, last := 0, 0
	for _, sample := range x {
		r := sample - []int{0, last, 2*last - before}[predictor]
		u := 2 * r
		if r < 0 {
			u = -2*r - 1
		}
		power := 1
		for range parameter {
			power *= 2
		}
		s += strings.Repeat("1", u/power) + "0" + binary(u%power, parameter)
		before, last = last, sample
	}
	return bits(s)
}

// packable returns samples of many kinds.
func packable() [][8]int {
	const top = 32767
	l := [][8]int{
		{}, {3, 4, 5, 6, 7, 8, 9, 10}, {1}, {-1}, {0, 0, 0, 0, 0, 0, 0, 1}, {0, 0, 0, 0, 0, 0, 0, -1},
		{top, top, top, top, top, top, top, top}, {-top, -top, -top, -top, -top, -top, -top, -top},
		{top, -top, top, -top, top, -top, top, -top}, {-top, top, -top, top, -top, top, -top, top},
		{1, 4, 9, 16, 25, 36, 49, 64}, {100, 100, 100, 100, 200, 200, 200, 200}, {-5, -10, -15, -20, -25, -30, -35, -40},
		{0, 1, 0, 1, 0, 1, 0, 1}, {2, 2, 2, 2, 2, 2, 2, 2}, {top}, {0, 0, 0, top}, {0, -top, top},
	}
	for width := 1; width <= top; width *= 3 {
		for seed := range 6 {
			l = append(l, eight(seed+width, -width, width))
		}
	}
	return l
}

// P1.4, example 4
func TestBitsForExample(t *testing.T) {
	x := [8]int{3, 4, 5, 6, 7, 8, 9, 10}
	for _, y := range []struct{ predictor, parameter, want int }{{1, 0, 35}, {1, 1, 33}, {1, 2, 32}, {2, 0, 24}, {2, 1, 27}} {
		if n, e := transfer.BitsFor(x, y.predictor, y.parameter); e != api.OK || n != y.want {
			t.Error(y, n, e)
		}
	}
}

// P1.4, P1.7
func TestPackedBits(t *testing.T) {
	for _, x := range packable() {
		var least []int
		for predictor := range 3 {
			for parameter := range 18 {
				want := bitsWith(x, predictor, parameter)
				if n, e := transfer.BitsFor(x, predictor, parameter); e != api.OK || n != len(want) {
					t.Error(x, predictor, parameter, n, e, len(want))
				}
				if least == nil || len(want) < len(least) {
					least = want
				}
			}
		}
		packed, e := transfer.PackedOf(x)
		wantError(t, x, e, api.OK)
		wantList(t, x, packed, least)
		if len(packed) > 159 {
			t.Error(x, len(packed))
		}
		if y, e := transfer.Unpacked(packed); e != api.OK || y != x {
			t.Error(x, y, e)
		}
	}
}

// P1.4, example 4
func TestPackedExamples(t *testing.T) {
	packed, e := transfer.PackedOf([8]int{3, 4, 5, 6, 7, 8, 9, 10})
	wantError(t, "example 4", e, api.OK)
	wantList(t, "example 4", packed, bits("10 00000 1111110 1110 000000"))
	packed, e = transfer.PackedOf([8]int{})
	wantError(t, "of several the lowest predictor", e, api.OK)
	wantList(t, "of several the lowest predictor", packed, bits("00 00000 00000000"))
	packed, e = transfer.PackedOf([8]int{-1, -1, -1, -1, -1, -1, -1, -1})
	wantError(t, "predictor 1", e, api.OK)
	wantList(t, "predictor 1", packed, bits("01 00000 10 0000000"))
	tie := [8]int{-1, 1, -1, 1, -1, 1, -1, 1} // u is 1 and 2: 20 bits with the parameter 0, and with 1
	packed, e = transfer.PackedOf(tie)
	wantError(t, "of several the lowest parameter", e, api.OK)
	wantList(t, "of several the lowest parameter", packed, bits("00 00000 10 110 10 110 10 110 10 110"))
}

// P1.4
func TestPackingErrors(t *testing.T) {
	for i := range 8 {
		for _, n := range append([]int{-32768, 32768}, extremes...) {
			x := [8]int{}
			x[i] = n
			packed, e := transfer.PackedOf(x)
			wantError(t, x, e, api.ErrRange)
			wantList(t, x, packed, nil)
			count, e := transfer.BitsFor(x, 0, 0)
			wantError(t, x, e, api.ErrRange)
			if count != 0 {
				t.Error(x, count)
			}
		}
	}
	for _, y := range [][2]int{{-1, 0}, {3, 0}, {0, -1}, {0, 18}, {3, 18}} {
		n, e := transfer.BitsFor([8]int{1}, y[0], y[1])
		wantError(t, y, e, api.ErrRange)
		if n != 0 {
			t.Error(y, n)
		}
	}
	for _, n := range extremes {
		_, e := transfer.BitsFor([8]int{}, n, 0)
		wantError(t, n, e, api.ErrRange)
		_, e = transfer.BitsFor([8]int{}, 0, n)
		wantError(t, n, e, api.ErrRange)
	}
}

// P1.4: bits with whatever predictor and parameter are samples, also if others are fewer.
func TestUnpackedOfAnyBits(t *testing.T) {
	for _, x := range packable() {
		for predictor := range 3 {
			for parameter := range 18 {
				l := bitsWith(x, predictor, parameter)
				y, e := transfer.Unpacked(l)
				if len(l) > 3000 {
					wantError(t, x, e, api.ErrLarge)
				} else if e != api.OK || y != x {
					t.Error(x, predictor, parameter, y, e)
				}
			}
		}
	}
}

// P1.4, edge cases: residuals greater than MaxSample in size
func TestGreatResiduals(t *testing.T) {
	x := [8]int{-32767, 32767, -32767, 32767, 0, 0, 32767, -32767}
	for predictor := 1; predictor < 3; predictor++ {
		y, e := transfer.Unpacked(bitsWith(x, predictor, 17))
		if e != api.OK || y != x {
			t.Error(predictor, y, e)
		}
	}
}

func wantNotUnpacked(t *testing.T, what any, l []int, want api.Errno) {
	t.Helper()
	x, e := transfer.Unpacked(l)
	wantError(t, what, e, want)
	if x != ([8]int{}) {
		t.Error(what, x)
	}
}

// P1.4
func TestUnpackedForms(t *testing.T) {
	ones := strings.Repeat("1", 40)
	for _, x := range []struct {
		bits string
		want api.Errno
	}{
		{"", api.ErrShape},
		{"00 0000", api.ErrShape},
		{"11 1111", api.ErrShape},
		{"00 00000", api.ErrShape},
		{"11 00000", api.ErrForm},
		{"11 00000 00000000", api.ErrForm},
		{"00 10010", api.ErrForm},
		{"00 10010 00000000", api.ErrForm},
		{"00 11111" + ones, api.ErrForm},
		{"10 10010" + ones, api.ErrForm},
		{"10 10001" + ones, api.ErrShape},
		{"00 00000 0000000", api.ErrShape},
		{"00 00000 000000000", api.ErrShape},
		{"00 00000 00000001", api.ErrShape},
		{"00 00000 000000001", api.ErrShape},
		{"00 00000 00000000 1", api.ErrShape},
		{"00 00001 00 00 00 00 00 00 00 0", api.ErrShape},
		{"00 00001 00 00 00 00 00 00 00 10", api.ErrShape},
		{"00 00000" + ones, api.ErrShape},
	} {
		wantNotUnpacked(t, x.bits, bits(x.bits), x.want)
	}
	y, e := transfer.Unpacked(bits("00 00001 01 00 00 00 00 00 00 10 0"))
	if e != api.OK || y != ([8]int{-1, 0, 0, 0, 0, 0, 0, 1}) {
		t.Error(y, e)
	}
}

// P1.4
func TestUnpackedErrorsInOrder(t *testing.T) {
	packed := bitsWith([8]int{3, 4, 5}, 0, 2)
	for i := range packed {
		for _, n := range append([]int{-1, 2}, extremes...) {
			l := slices.Clone(packed)
			l[i] = n
			wantNotUnpacked(t, l, l, api.ErrRange)
		}
	}
	for i := range len(packed) {
		wantNotUnpacked(t, i, packed[:i], api.ErrShape)
	}
	wantNotUnpacked(t, "the range before the shape", []int{2}, api.ErrRange)
	wantNotUnpacked(t, "the range before the form", []int{1, 1, 0, 0, 0, 0, 0, 2}, api.ErrRange)
	wantNotUnpacked(t, "the number before the range", slices.Repeat([]int{2}, 3001), api.ErrLarge)
	wantNotUnpacked(t, "the number before the form", slices.Repeat([]int{1}, 3001), api.ErrLarge)
	wantNotUnpacked(t, "the form", slices.Repeat([]int{1}, 3000), api.ErrForm)
}

// P1.4: 3000 bits are permitted, and 3001 are not.
func TestUnpackedLength(t *testing.T) {
	head := bits("00 00000")
	for _, more := range []int{0, 1} {
		l := slices.Concat(head, make([]int, 7), slices.Repeat([]int{1}, 3000-7-7-1+more), []int{0})
		x, e := transfer.Unpacked(l)
		if more == 1 {
			wantError(t, len(l), e, api.ErrLarge)
		} else if e != api.OK || x != ([8]int{7: -1493}) {
			t.Error(len(l), x, e)
		}
	}
}

// wide returns bits with the parameter 17, whose residuals may be of any size.
func wide(predictor int, residuals ...int) []int {
	l := bitsWith([8]int{}, predictor, 17)[:7]
	for _, r := range residuals {
		code := bitsWith([8]int{r}, 0, 17)
		l = append(l, code[7:len(code)-7*18]...)
	}
	return l
}

// P1.4
func TestUnpackedSamplesHaveARange(t *testing.T) {
	wantNotUnpacked(t, "32768", wide(0, 32768, 0, 0, 0, 0, 0, 0, 0), api.ErrRange)
	wantNotUnpacked(t, "-32768", wide(0, 0, 0, 0, 0, 0, 0, 0, -32768), api.ErrRange)
	wantNotUnpacked(t, "a sum", wide(1, 32767, 0, 0, 1, 0, 0, 0, 0), api.ErrRange)
	wantNotUnpacked(t, "a sum that comes back", wide(1, 32767, 0, 0, 1, -1, 0, 0, 0), api.ErrRange)
	wantNotUnpacked(t, "a line", wide(2, 30000, 0, 0, 0, 0, 0, 0, 0), api.ErrRange)
	wantNotUnpacked(t, "many ones", wide(2, 1<<24, 1<<24, 1<<24, 1<<24, 1<<24, 1<<24, 1<<24, 1<<24), api.ErrRange)
	for _, n := range []int{32767, -32767} {
		if x, e := transfer.Unpacked(wide(1, n, 0, 0, 0, 0, 0, 0, 0)); e != api.OK || x != ([8]int{n, n, n, n, n, n, n, n}) {
			t.Error(x, e)
		}
	}
	wantNotUnpacked(t, "all codes are read first", wide(0, 32768), api.ErrShape)
	wantNotUnpacked(t, "what follows is read first", append(wide(0, 32768, 0, 0, 0, 0, 0, 0, 0), 0), api.ErrShape)
}
