package spectrum_test

import (
	"math"
	"strings"
	"testing"

	"lacquer/api"
	"lacquer/spectrum"
)

// P6.7
func TestFormatEdit(t *testing.T) {
	for _, v := range []struct {
		e    api.SpectrumEdit
		want string
	}{
		{gain(1, 1, 0, 4, 8), "gain 1 1 0 4 8"},
		{copied(2, 2, 0, 4, 1), "copy 2 2 0 4 1"},
		{gain(0, 100, 3, 4, 32), "gain 0 100 3 4 32"},
		{api.SpectrumEdit{}, "gain 0 0 0 0 0"},
		{copied(-1, -2, -3, -4, -5), "copy -1 -2 -3 -4 -5"},
		{gain(math.MinInt, math.MaxInt, 1000, 5, 7), "gain -9223372036854775808 9223372036854775807 1000 5 7"},
	} {
		if s := spectrum.FormatEdit(v.e); s != v.want {
			t.Errorf("%q, want %q", s, v.want)
		}
	}
	for _, kind := range beyond(0, 1) {
		if s := spectrum.FormatEdit(api.SpectrumEdit{Kind: kind, Region: region(1, 2, 3, 4), Number: 5}); s != "" {
			t.Errorf("%q", s)
		}
	}
}

// P6.14
func TestParsingReversesFormatting(t *testing.T) {
	d := dice(22)
	l := edits(gain(0, 0, 0, 0, 0), gain(0, 100, 0, 4, 32), copied(0, 100, 0, 4, 100), copied(100, 100, 4, 4, 0))
	for range 500 {
		l = append(l, someEdit(d, 100))
	}
	for _, e := range l {
		expect(t, e, shown(spectrum.ParseEdit(spectrum.FormatEdit(e))), shown(e, api.OK))
	}
}

// P6.7
func TestParseEdit(t *testing.T) {
	for _, v := range []struct {
		s    string
		want api.SpectrumEdit
	}{
		{"gain 1 1 0 4 8", gain(1, 1, 0, 4, 8)},
		{"copy 2 2 0 4 1", copied(2, 2, 0, 4, 1)},
		{"gain 0 100 0 4 32", gain(0, 100, 0, 4, 32)},
		{"copy 100 100 1 3 100", copied(100, 100, 1, 3, 100)},
		{"gain 0 0 0 0 0", api.SpectrumEdit{}},
	} {
		expect(t, v, shown(spectrum.ParseEdit(v.s)), shown(v.want, api.OK))
	}
	for _, v := range []struct {
		e    api.Errno
		list []string
	}{
		{api.ErrSyntax, []string{
			"", " ", "gain", "gain ", "copy", "fly", "fly 1 1 0 4 8", "Gain 1 1 0 4 8", "COPY 1 1 0 4 8", "gains 1 1 0 4 8", "gai 1 1 0 4 8", "gain1 1 0 4 8", "0 1 1 0 4 8", " 1 1 0 4 8",
			"gain 1 1 0 4", "gain 1 1 0 4 ", "gain 1 1 0 4 8 ", "gain 1 1 0 4 8 1", "gain 1 1 0 4 8 x", " gain 1 1 0 4 8", "gain  1 1 0 4 8", "gain 1  1 0 4 8", "gain 1 1 0 4  8", "gain\t1 1 0 4 8", "gain 1 1 0 4\t8", "gain 1 1 0 4 8\n", "gain,1,1,0,4,8",
			"gain x 1 0 4 8", "gain 1 x 0 4 8", "gain 1 1 x 4 8", "gain 1 1 0 x 8", "gain 1 1 0 4 x",
			"gain -1 1 0 4 8", "gain 1 -1 0 4 8", "gain 1 1 -1 4 8", "gain 1 1 0 -4 8", "gain 1 1 0 4 -8", "copy 1 1 0 4 -1", "gain 1 1 -0 4 8", "gain 1 1 0 4 -0", "gain 1 1 0 4 +8", "gain +1 1 0 4 8",
			"gain 01 1 0 4 8", "gain 1 1 00 4 8", "gain 1 1 0 4 08", "gain 1 1 0 4 008", "gain 1 1 0 4 8.0", "gain 1 1 0 4 1e1", "gain 1 1 0 4 0x8", "gain 1 1 0 4 1_0", "gain 1 1 0 4 \u0661", "gain 1 1 0 4 8\x00", "gain 1 1 0 4 -", "gain 1 1 0 4 +",
			"gain 1000 1 0 4 8", "gain 1 1000 0 4 8", "gain 1 1 1000 4 8", "gain 1 1 0 1000 8", "gain 1 1 0 4 1000", "copy 1 1 0 4 1000", "gain 1 1 0 4 99999999999999999999", "gain 1 1 0 4 0001",
			// Of several errors the first one.
			"gain 101 1 0 4 x", "copy 2 1 0 5 -1",
			strings.Repeat("x", 100000), strings.Repeat(" ", 100000), "gain" + strings.Repeat(" 1", 50000), "gain 1 1 0 4 " + strings.Repeat("1", 100000),
		}},
		{api.ErrRange, []string{
			"gain 101 101 0 4 8", "gain 1 101 0 4 8", "gain 999 1 0 4 8", "gain 1 1 0 5 8", "gain 1 1 5 5 8", "gain 1 1 999 4 8", "gain 1 1 0 4 33", "gain 1 1 0 4 999", "copy 1 1 0 4 101", "copy 1 1 0 4 999", "copy 2 1 0 5 1",
		}},
		{api.ErrOrder, []string{"gain 2 1 0 4 8", "gain 1 1 4 3 8", "copy 100 0 0 4 1", "copy 1 1 1 0 101", "gain 2 1 0 4 33"}},
	} {
		for _, s := range v.list {
			expect(t, s[:min(len(s), 40)], shown(spectrum.ParseEdit(s)), shown(api.SpectrumEdit{}, v.e))
		}
	}
}
