package click_test

import (
	"math"
	"strings"
	"testing"

	"lacquer/api"
	"lacquer/click"
)

// P5.7, example 8
func TestFormatRules(t *testing.T) {
	for _, x := range []struct {
		r    api.ClickRules
		want string
	}{
		{curve(100, 2, 4, 20), "curve 100 2 4 20"},
		{median(1, 5, 2, 4, 50), "median 1 5 2 4 50"},
		{api.ClickRules{}, "median 0 0 0 0 0"},
		{api.ClickRules{Kind: api.ClickCurve}, "curve 0 0 0 0"},
		{api.ClickRules{Kind: api.ClickCurve, Window: 7, Threshold: -1, Join: -2, Most: -3, Percent: -4}, "curve -1 -2 -3 -4"},
		{median(math.MinInt, math.MaxInt, -1, 1000000, 7), "median -9223372036854775808 9223372036854775807 -1 1000000 7"},
	} {
		if s := click.FormatRules(x.r); s != x.want {
			t.Errorf("%q, want %q", s, x.want)
		}
	}
	for _, kind := range beyond(0, 1) {
		if s := click.FormatRules(api.ClickRules{Kind: kind, Window: 1, Threshold: 5, Join: 2, Most: 4, Percent: 50}); s != "" {
			t.Errorf("%q", s)
		}
	}
}

// P5.7, example 8
func TestFormatHum(t *testing.T) {
	for _, x := range []struct {
		h    api.ClickHum
		want string
	}{
		{hum(2, 0, -1, 3), "2 0 -1 3"}, {api.ClickHum{}, "0 0"}, {api.ClickHum{Table: []int{}}, "0 0"}, {hum(-1, -2, -3), "-1 -2 -3"},
		{hum(math.MinInt, math.MaxInt, math.MinInt), "-9223372036854775808 9223372036854775807 -9223372036854775808"},
		{hum(7, 8, make([]int, 300)...), "7 8" + strings.Repeat(" 0", 300)},
	} {
		if s := click.FormatHum(x.h); s != x.want {
			t.Errorf("%q, want %q", s, x.want)
		}
	}
}

// P5.15
func TestParsingReversesFormatting(t *testing.T) {
	d := dice(14)
	rules := []api.ClickRules{median(1, 0, 2, 1, 0), median(4, 131068, 8, 8, 100), curve(0, 2, 1, 0), curve(131068, 8, 8, 100)}
	hums := []api.ClickHum{hum(1, 0, 0), hum(2, 1, -65534, 65534), hum(64, 63, make([]int, 64)...)}
	for range 200 {
		rules = append(rules, someRules(d))
		hums = append(hums, someHum(d, 9), someHum(d, 65534))
	}
	for _, r := range rules {
		expect(t, r, shown(click.ParseRules(click.FormatRules(r))), shown(r, api.OK))
	}
	for _, h := range hums {
		expect(t, h, shown(click.ParseHum(click.FormatHum(h))), shown(h, api.OK))
	}
}

// P5.7
func TestParseRules(t *testing.T) {
	for _, x := range []struct {
		s    string
		want api.ClickRules
	}{
		{"curve 100 2 4 20", curve(100, 2, 4, 20)},
		{"median 1 5 2 4 50", median(1, 5, 2, 4, 50)},
		{"median 4 131068 8 8 100", median(4, 131068, 8, 8, 100)},
		{"curve 0 2 1 0", curve(0, 2, 1, 0)},
	} {
		expect(t, x, shown(click.ParseRules(x.s)), shown(x.want, api.OK))
	}
	for _, x := range []struct {
		e    api.Errno
		list []string
	}{
		{api.ErrSyntax, []string{
			"", " ", "fly", "fly 1 5 2 4 50", "Median 1 5 2 4 50", "medians 1 5 2 4 50", "median1 5 2 4 50", "CURVE 100 2 4 20", "curv 100 2 4 20", "0 1 5 2 4 50",
			"median", "median ", "median 1", "median 1 5 2 4", "median 1 5 2 4 ", "median 5 2 4 50", "median 1 5 2 4 50 ", "median 1 5 2 4 50 1", " median 1 5 2 4 50", "median  1 5 2 4 50", "median 1  5 2 4 50", "median 1 5 2 4  50", "median\t1 5 2 4 50", "median 1 5 2 4 50\n", "median,1,5,2,4,50",
			"curve", "curve ", "curve 100", "curve 100 2 4", "curve 100 2 4 ", "curve 0 100 2 4 20", "curve 1 5 2 4 50", "curve 100 2 4 20 ", "curve 100 2 4 20 1", " curve 100 2 4 20", "curve  100 2 4 20", "curve 100  2 4 20", "curve 100 2 4 20\n",
			"median x 5 2 4 50", "median 1 x 2 4 50", "median 1 5 x 4 50", "median 1 5 2 x 50", "median 1 5 2 4 x", "curve x 2 4 20", "curve 100 2 4 x",
			"median -1 5 2 4 50", "median 1 -5 2 4 50", "median 1 5 -2 4 50", "median 1 5 2 -4 50", "median 1 5 2 4 -50", "curve -100 2 4 20", "curve 100 2 4 -20",
			"median +1 5 2 4 50", "median 1 5 2 4 +50", "median 01 5 2 4 50", "median 1 05 2 4 50", "median 1 00 2 4 50", "median -0 5 2 4 50", "median 1 -0 2 4 50", "curve -0 2 4 20", "curve 0100 2 4 20",
			"median 1 5.0 2 4 50", "median 1 1e2 2 4 50", "median 1 0x5 2 4 50", "median 1 1_0 2 4 50", "median 1 \u0661 2 4 50", "median 1 5 2 4 50\x00",
			"median 1 1000000 2 4 50", "median 1000000 5 2 4 50", "median 1 5 2 4 1000000", "curve 1000000 2 4 20", "curve 99999999999999999999 2 4 20", "curve 0000001 2 4 20",
			// Of several errors the first one.
			"median 0 131069 0 0 x", "curve 131069 0 0",
			strings.Repeat("x", 100000), strings.Repeat(" ", 100000), "curve" + strings.Repeat(" 1", 50000), "median " + strings.Repeat("1", 100000),
		}},
		{api.ErrRange, []string{
			"median 0 100 2 4 20", "median 5 5 2 4 50", "median 999999 5 2 4 50", "median 1 131069 2 4 50", "median 1 999999 2 4 50", "median 1 5 1 4 50", "median 1 5 9 4 50", "median 1 5 2 0 50", "median 1 5 2 9 50", "median 1 5 2 4 101", "median 1 5 2 4 999999",
			"curve 131069 2 4 20", "curve 100 1 4 20", "curve 100 9 4 20", "curve 100 2 0 20", "curve 100 2 9 20", "curve 100 2 4 101",
		}},
	} {
		for _, s := range x.list {
			expect(t, s[:min(len(s), 40)], shown(click.ParseRules(s)), shown(api.ClickRules{}, x.e))
		}
	}
}

// P5.7
func TestParseHum(t *testing.T) {
	for _, x := range []struct {
		s    string
		want api.ClickHum
	}{
		{"2 0 -1 3", hum(2, 0, -1, 3)}, {"1 0 0", hum(1, 0, 0)}, {"3 2 65534 -65534 0", hum(3, 2, 65534, -65534, 0)}, {"64 63" + strings.Repeat(" -7", 64), func() api.ClickHum {
			h := hum(64, 63)
			for range 64 {
				h.Table = append(h.Table, -7)
			}
			return h
		}()},
	} {
		expect(t, x, shown(click.ParseHum(x.s)), shown(x.want, api.OK))
	}
	for _, x := range []struct {
		e    api.Errno
		list []string
	}{
		{api.ErrSyntax, []string{
			"", " ", "  ", "x", "2", "0", "64", "2 ", " 2", "2 0 ", " 2 0 -1 3", "2 0 -1 3 ", "2  0 -1 3", "2 0  -1 3", "2 0 -1  3", "2\t0 -1 3", "2 0 -1 3\n", "2,0,-1,3",
			"-2 0 -1 3", "2 -0 -1 3", "-0 0 -1 3", "2 -1 -1 3", "x 0 1 1", "2 x 1 1", "2 0 x 1", "2 0 1 x", "2 0 - 1", "2 0 --1 1", "2 0 -0 1", "2 0 +1 1", "+2 0 1 1", "2 +0 1 1", "2 0 -+1 1", "2 0 1- 1",
			"02 0 1 1", "2 00 1 1", "2 0 01 1", "2 0 -01 1", "2 0 1.0 1", "2 0 1e2 1", "2 0 0x1 1", "2 0 1_0 1", "2 0 \u0661 1",
			"1000000 0 1 1", "2 1000000 1 1", "2 0 1000000 1", "2 0 -1000000 1", "2 0 0000001 1", "2 0 99999999999999999999 1", "2 0 -99999999999999999999 1",
			// Of several errors the first one.
			"65 0 x", "2 0 65535 1 1 x", strings.Repeat("1 ", 50000), strings.Repeat("1", 100000), strings.Repeat(" ", 100000),
		}},
		{api.ErrShape, []string{"2 0", "2 0 1", "2 1 1 2 3", "2 0 65535", "1 0" + strings.Repeat(" 1", 50000)}},
		{api.ErrRange, []string{
			"0 0", "0 0 1", "65 0", "65 0" + strings.Repeat(" 1", 65), "999999 0 1", "2 2", "2 2 1 1", "2 999999 1 1", "2 0 65535 0", "2 0 0 -65535", "2 0 999999 0", "2 0 -999999 0",
		}},
	} {
		for _, s := range x.list {
			expect(t, s[:min(len(s), 40)], shown(click.ParseHum(s)), shown(api.ClickHum{}, x.e))
		}
	}
}
