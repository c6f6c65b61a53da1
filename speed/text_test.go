package speed_test

import (
	"math"
	"strings"
	"testing"

	"lacquer/api"
	"lacquer/speed"
)

// P3.7, example 7
func TestFormatMap(t *testing.T) {
	for _, x := range []struct {
		m    api.SpeedMap
		want string
	}{
		{mapOf(), ""}, {api.SpeedMap{Nodes: []api.SpeedNode{}}, ""}, {mapOf(0, 0), "0@0"}, {mapOf(0, 0, 10, 100), "0@0 10@100"},
		{mapOf(5, 5, 5, 4, -3, -2), "5@5 5@4 -3@-2"},
		{mapOf(math.MinInt, math.MaxInt), "-9223372036854775808@9223372036854775807"},
		{api.SpeedMap{Nodes: make([]api.SpeedNode, 300)}, strings.Repeat("0@0 ", 299) + "0@0"},
	} {
		if s := speed.FormatMap(x.m); s != x.want {
			t.Errorf("%q, want %q", s, x.want)
		}
	}
}

// P3.7, example 7
func TestFormatMark(t *testing.T) {
	for _, x := range []struct {
		position, lo, hi int
		want             string
	}{
		{0, 0, 0, "0 0 0"}, {10, 90, 130, "10 90 130"}, {-10, 130, -90, "-10 130 -90"}, {maxPosition, 0, maxTick, "1000000 0 1000000000000"},
		{math.MaxInt, math.MinInt, math.MaxInt, "9223372036854775807 -9223372036854775808 9223372036854775807"},
	} {
		if s := speed.FormatMark(marksOf(x.position, x.lo, x.hi)[0]); s != x.want {
			t.Errorf("%q, want %q", s, x.want)
		}
	}
}

// P3.14
func TestParsingReversesFormatting(t *testing.T) {
	for _, m := range someMaps(17) {
		expect(t, m, shown(speed.ParseMap(speed.FormatMap(m))), shown(m, api.OK))
	}
	d := dice(18)
	marks := marksOf(0, 0, 0, 10, 90, 130, maxPosition, maxTick, maxTick, 0, 0, maxTick)
	for range 100 {
		lo := between(d, 0, maxTick)
		marks = append(marks, marksOf(between(d, 0, maxPosition), lo, between(d, lo, maxTick))...)
	}
	for _, mark := range marks {
		expect(t, mark, shown(speed.ParseMark(speed.FormatMark(mark))), shown(mark, api.OK))
	}
}

// P3.7
func TestParseMapErrors(t *testing.T) {
	many := strings.Repeat("0@0 ", 20)
	for _, x := range []struct {
		e    api.Errno
		list []string
	}{
		{api.ErrLarge, []string{strings.Repeat("x", 60001), strings.Repeat("0@0 ", 15000) + "0", speed.FormatMap(steady(21)), many + "0@0", many + "9999999@0"}},
		{api.ErrSyntax, []string{
			"", " ", "@", "0", "0@", "@0", "0@@0", "0@0@0", "0 @0", "0@ 0", "0@0 ", " 0@0 1@1", "0@0  1@1", "0@0 1@1 ", "0@0\t1@1", "0@0\n", "0@0,1@1", "0@0 10", "0@0 10:5", "0@0 1@x", "0@0 x@1",
			"00@0 1@1", "0@00 1@1", "0@0 01@1", "0@0 1@01", "-0@0 1@1", "0@-0 1@1", "-1@0 1@1", "0@-1 1@1", "+0@0 1@1", "0@+0 1@1", "0@0 1@1.0", "0@0 1@1e3", "0@0 1@1_0", "0@0 0x1@1", "--1@0",
			"0@0 10000000@1", "0@0 00000001@1", "0@0 1@10000000000000", "0@0 1@99999999999999999999", "0@0 99999999999999999999@1", "0@0 1@\u0661", "0@0 1\xa0@1", "\x00@0 1@1", "1@1 0@0 x", "0@0 1@/", ":@0",
			strings.Repeat("0@0 ", 15000), strings.Repeat(" ", 60000), many, many + "x",
		}},
		{api.ErrShape, []string{"0@0", "9999999@0", "1000000@1000000000000"}},
		{api.ErrRange, []string{"0@0 1000001@5", "0@0 9999999@5", "0@0 1@1000000000001", "0@0 1@9999999999999", "1000001@0 0@0", "0@9999999999999 0@0"}},
		{api.ErrOrder, []string{"0@0 0@5", "0@5 1@5", "0@5 1@4", "1@0 0@1", "0@0 1@1 1@9999999999 9999999@1"}},
	} {
		for _, s := range x.list {
			expect(t, s[:min(len(s), 40)], shown(speed.ParseMap(s)), shown(api.SpeedMap{}, x.e))
		}
	}
}

// P3.7
func TestParseMarkErrors(t *testing.T) {
	for _, x := range []struct {
		e    api.Errno
		list []string
	}{
		{api.ErrSyntax, []string{
			"", " ", "  ", "   ", "1", "10 90", "10 90 130 140", "10 90 130 ", " 10 90 130", "10  90 130", "10 90  130", "10  90", "10 90 ", "10\t90 130", "10 90 130\n", "10,90,130", "10 90@130",
			"x 90 130", "10 x 130", "10 90 x", "-1 90 130", "10 -90 130", "10 -130 -90", "-0 0 0", "0 -0 0", "0 0 -0", "+1 90 130", "10 +90 130", "10 90 +130", "01 90 130", "10 090 130", "10 90 0130", "00 0 0",
			"10 90 1.5", "10 90 1e3", "10 90 0x1", "10 90 1_0", "10000000000000 0 0", "0 10000000000000 10000000000000", "0 0 10000000000000", "0 0 99999999999999999999", "0 0 00000000000001", "0 0 \u0661",
			strings.Repeat("0 ", 100000), strings.Repeat(" ", 100000), strings.Repeat("0", 100000) + " 0 0", "130 90 x",
		}},
		{api.ErrRange, []string{"1000001 0 0", "9999999999999 5 4", "0 1000000000001 1000000000001", "0 0 1000000000001", "0 9999999999999 0", "1000001 130 90"}},
		{api.ErrOrder, []string{"10 130 90", "0 1 0", "1000000 1000000000000 999999999999"}},
	} {
		for _, s := range x.list {
			expect(t, s[:min(len(s), 40)], shown(speed.ParseMark(s)), shown(api.SpeedMark{}, x.e))
		}
	}
	for _, x := range []struct {
		s    string
		want []int
	}{
		{"10 90 130", []int{10, 90, 130}}, {"0 0 0", []int{0, 0, 0}}, {"1000000 0 1000000000000", []int{maxPosition, 0, maxTick}},
	} {
		expect(t, x, shown(speed.ParseMark(x.s)), shown(marksOf(x.want...)[0], api.OK))
	}
}
