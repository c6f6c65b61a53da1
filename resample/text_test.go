package resample_test

import (
	"math"
	"strings"
	"testing"

	"lacquer/api"
	"lacquer/resample"
	"lacquer/speed"
)

// P4.6, example 9
func TestFormatRules(t *testing.T) {
	for _, x := range []struct {
		r    api.ResampleRules
		want string
	}{
		{ratio(3, 1, 2), "ratio 3 1 2"},
		{mapped(1, 5, 0, 0, 2, 20, 3, 40), "map 1 5 0@0 2@20 3@40"},
		{api.ResampleRules{}, "ratio 0 0 0"},
		{ratio(-2, 99999, math.MinInt), "ratio -2 99999 -9223372036854775808"},
		{api.ResampleRules{Degree: 1, Num: 2, Den: 3, Step: 5, Map: mapOf(0, 0)}, "ratio 1 2 3"},
		{api.ResampleRules{Kind: api.ResampleMap, Degree: 1, Num: 2, Den: 3, Step: -5, Map: mapOf(7, -8)}, "map 1 -5 7@-8"},
		{mapped(1, 5), "map 1 5 "},
	} {
		if s := resample.FormatRules(x.r); s != x.want {
			t.Errorf("%q, want %q", s, x.want)
		}
	}
	for _, kind := range beyond(0, 1) {
		if s := resample.FormatRules(api.ResampleRules{Kind: kind, Degree: 1, Num: 1, Den: 1}); s != "" {
			t.Errorf("%q", s)
		}
	}
}

// P4.6, example 9
func TestFormatFilter(t *testing.T) {
	for _, x := range []struct {
		f    api.ResampleFilter
		want string
	}{
		{filter(2, 1, -2, 1), "2 1 -2 1"}, {filter(2), "2"}, {api.ResampleFilter{Coefficients: []int{}}, "0"}, {filter(-3, 0), "-3 0"},
		{filter(math.MinInt, math.MaxInt), "-9223372036854775808 9223372036854775807"},
		{filter(1, make([]int, 300)...), "1" + strings.Repeat(" 0", 300)},
	} {
		if s := resample.FormatFilter(x.f); s != x.want {
			t.Errorf("%q, want %q", s, x.want)
		}
	}
}

// P4.14
func TestParsingReversesFormatting(t *testing.T) {
	rules := append(someRules(21), ratio(1, 1, 1), ratio(3, 1000, 1000), mapped(3, 1, 0, 0, 1, 1), mapped(1, maxTick, 0, 0, 1000000, maxTick))
	for _, r := range rules {
		expect(t, r, shown(resample.ParseRules(resample.FormatRules(r))), shown(r, api.OK))
	}
	for _, f := range someFilters(22) {
		expect(t, f, shown(resample.ParseFilter(resample.FormatFilter(f))), shown(f, api.OK))
	}
}

// P4.6
func TestParseRulesErrors(t *testing.T) {
	for _, x := range []struct {
		e    api.Errno
		list []string
	}{
		{api.ErrLarge, []string{strings.Repeat("x", 60001), "ratio 1 1 1" + strings.Repeat(" ", 59990), "map 1 5 " + strings.Repeat("0@0 ", 15000), "map 2 0 " + strings.Repeat("0@0 ", 20) + "0@0"}},
		{api.ErrSyntax, []string{
			"", " ", "fly", "fly 1 1 1", "ratio", "ratio ", "ratio 1", "ratio 1 1", "ratio 1 1 ", "ratio 1 1 1 ", "ratio 1 1 1 1", " ratio 1 1 1", "ratio  1 1 1", "ratio 1  1 1", "ratio 1 1  1", "ratio\t1 1 1", "ratio 1 1 1\n",
			"Ratio 1 1 1", "ratios 1 1 1", "ratio1 1 1", "ratio 1,1,1", "ratio x 1 1", "ratio 1 x 1", "ratio 1 1 x", "ratio 01 1 1", "ratio 1 01 1", "ratio 1 1 01", "ratio -1 1 1", "ratio 1 -1 1", "ratio 1 1 -1", "ratio +1 1 1", "ratio 1 +1 1", "ratio 1 1 +1",
			"ratio -0 1 1", "ratio 1 -0 1", "ratio 1 1 -0", "ratio 1 1.0 1", "ratio 1 1 1e2", "ratio 1 1_0 1", "ratio 1 0x1 1", "ratio 10000 1 1", "ratio 1 10000 1", "ratio 1 1 10000", "ratio 1 00001 1", "ratio 1 1 99999999999999999999", "ratio 1 1 \u0661", "ratio 1 0@0 1@1",
			"map", "map ", "map 1", "map 1 ", "map 1 5", "map 1 5 ", "map 1 5  ", "map  1 5 0@0 1@1", "map 1  5 0@0 1@1", "map 1 5  0@0 1@1", "map 1 5 0@0 1@1 ", " map 1 5 0@0 1@1", "map 1 5 0@0 1", "map 1 5 x", "map 1 5 0@0 1@x", "map 1 5 0@0 10000000@1", "map 1 5 -1@0 1@1", "map 1 1 2",
			"map x 5 0@0 1@1", "map 1 x 0@0 1@1", "map 10000 5 0@0 1@1", "map 1 10000000000000 0@0 1@1", "map -1 5 0@0 1@1", "map 1 -5 0@0 1@1", "map 1 +5 0@0 1@1", "map 01 5 0@0 1@1", "map 1 05 0@0 1@1", "map -0 5 0@0 1@1", "map 1 -0 0@0 1@1",
			"map x 5 0@0", "map 1 x 0@0 0@0", "map 2 0 x", "map 1 5 " + strings.Repeat("0@0 ", 14000), strings.Repeat(" ", 60000), strings.Repeat("x", 60000),
		}},
		// The map's error comes before those of the degree and the step.
		{api.ErrShape, []string{"map 1 5 0@0", "map 2 5 0@0", "map 1 0 0@0", "map 9999 9999999999999 9999999@0"}},
		{api.ErrOrder, []string{"map 1 5 0@0 0@1", "map 2 0 0@5 1@5"}},
		{api.ErrKind, []string{"ratio 0 1 1", "ratio 2 1 1", "ratio 4 1 1", "ratio 9999 1 1", "ratio 2 0 0", "map 0 5 0@0 2@20", "map 2 0 0@0 2@20", "map 9999 5 0@0 2@20"}},
		{api.ErrRange, []string{
			"ratio 1 0 1", "ratio 1 1 0", "ratio 3 1001 1", "ratio 3 1 1001", "ratio 3 9999 1", "ratio 1 1 9999", "map 1 0 0@0 2@20", "map 1 1000000000001 0@0 2@20", "map 1 9999999999999 0@0 2@20",
			"map 2 5 0@0 1000001@20", "map 2 0 0@0 1@1000000000001",
		}},
	} {
		for _, s := range x.list {
			expect(t, s[:min(len(s), 40)], shown(resample.ParseRules(s)), shown(api.ResampleRules{}, x.e))
		}
	}
}

// P4.6
func TestParseRules(t *testing.T) {
	for _, x := range []struct {
		s    string
		want api.ResampleRules
	}{
		{"ratio 3 1 2", ratio(3, 1, 2)}, {"ratio 1 1000 1000", ratio(1, 1000, 1000)},
		{"map 1 5 0@0 2@20 3@40", mapped(1, 5, 0, 0, 2, 20, 3, 40)}, {"map 3 1000000000000 7@8 1000000@1000000000000", mapped(3, maxTick, 7, 8, 1000000, maxTick)},
	} {
		expect(t, x, shown(resample.ParseRules(x.s)), shown(x.want, api.OK))
	}
	// Every error of a map is that of its string.
	for _, s := range []string{"", "0@0", "0@0 0@0", "0@0 1@1 ", "1@0 0@1", "0@0 1000001@1", strings.Repeat("0@0 ", 30) + "0@0"} {
		_, e := speed.ParseMap(s)
		expect(t, s, shown(resample.ParseRules("map 2 0 "+s)), shown(api.ResampleRules{}, e))
	}
}

// P4.6
func TestParseFilterErrors(t *testing.T) {
	for _, x := range []struct {
		e    api.Errno
		list []string
	}{
		{api.ErrSyntax, []string{
			"", " ", "  ", "x", "-", "-2 1", "-0 1", "2 -0", "2 -", "2 --1", "2 x", "x 1", "2 1 x", "2  1", " 2 1", "2 1 ", "2\t1", "2 1\n", "2,1", "02 1", "2 01", "2 -01", "2 00", "+2 1", "2 +1", "2 1.0", "2 1e2", "2 1_0", "2 0x1",
			"10000 1", "2 10000", "2 -10000", "2 00001", "2 99999999999999999999", "2 -99999999999999999999", "2 \u0661", "2 1\xa0", "-1", "2 1 1 1 1 1 1 1 1 1 x", "2 1001 x", strings.Repeat("1 ", 50000), strings.Repeat("1", 50000),
		}},
		{api.ErrShape, []string{"2", "0", "9999"}},
		{api.ErrLarge, []string{"1 1 1 1 1 1 1 1 1 1", "0 9999 1 1 1 1 1 1 1 1", "1" + strings.Repeat(" 1", 50000)}},
		{api.ErrRange, []string{"0 1", "1001 1", "9999 1", "2 1001", "2 -1001", "2 9999", "2 -9999", "2 0 0 0 0 0 0 0 1001"}},
	} {
		for _, s := range x.list {
			expect(t, s[:min(len(s), 40)], shown(resample.ParseFilter(s)), shown(api.ResampleFilter{}, x.e))
		}
	}
	for _, x := range []struct {
		s    string
		want api.ResampleFilter
	}{
		{"2 1 -2 1", filter(2, 1, -2, 1)}, {"1 0", filter(1, 0)}, {"1000 1000 -1000", filter(1000, 1000, -1000)}, {"7 0 0 0 0 0 0 0 0", filter(7, 0, 0, 0, 0, 0, 0, 0, 0)},
	} {
		expect(t, x, shown(resample.ParseFilter(x.s)), shown(x.want, api.OK))
	}
}
