package groove_test

import (
	"math"
	"strings"
	"testing"

	"lacquer/api"
	"lacquer/groove"
)

// P2.8
func TestFormatPath(t *testing.T) {
	for _, x := range []struct {
		l    []int
		want string
	}{
		{nil, ""}, {[]int{}, ""}, {[]int{0}, "0"}, {[]int{3, -4, 4}, "3 -4 4"}, {[]int{-1000000, 1000000}, "-1000000 1000000"},
		{[]int{math.MinInt, 12345678, math.MaxInt}, "-9223372036854775808 12345678 9223372036854775807"},
		{make([]int, 300), strings.Repeat("0 ", 299) + "0"},
	} {
		if s := groove.FormatPath(x.l); s != x.want {
			t.Errorf("%q, want %q", s, x.want)
		}
	}
}

// P2.14
func TestParsePathReversesFormatPath(t *testing.T) {
	d := dice(18)
	lists := [][]int{nil, {0}, {3, -4, 4}, {-1000000, 1000000}, make([]int, 200), numbers(d, 200, -1000000, -999999)}
	for range 100 {
		lists = append(lists, numbers(d, d.IntN(201), -1000000, 1000000), numbers(d, d.IntN(201), -11, 11))
	}
	for _, l := range lists {
		expect(t, l, shown(groove.ParsePath(groove.FormatPath(l))), shown(l, api.OK))
	}
}

// P2.8
func TestParsePathErrors(t *testing.T) {
	zeros := strings.Repeat("0 ", 200)
	for _, x := range []struct {
		e    api.Errno
		list []string
	}{
		{api.ErrLarge, []string{strings.Repeat("0 ", 30000) + "0", strings.Repeat("x", 60001), strings.Repeat(" ", 60001), zeros + "0", zeros + "9999999", strings.Repeat("1 ", 29999) + "0"}},
		{api.ErrSyntax, []string{
			" ", "  ", " 1", "1 ", "1  2", "1\t2", "1\n", "\n", "1,2", "1, 2", "x", "1 x", "x 1", "1x", "0x1", "1_0", "1.0", "1e3", "--1", "-", "1 -", "- 1", "1-", "1-2", "-0", "0 -0",
			"+1", "+0", "00", "01", "-01", "-00", "007", "0000000", "00000001", "10000000", "-10000000", "12345678", "1 99999999", "99999999999999999999", "-9223372036854775808", "9223372036854775808",
			"\u0661", "\xb2", "1\x00", "1\xa02", "/", ":", "1/2", "\u22121", strings.Repeat("0 ", 30000), strings.Repeat("x", 60000), zeros, zeros + "x", "9999999 x",
		}},
		{api.ErrRange, []string{"1000001", "-1000001", "9999999", "-9999999", "0 0 1000001", "5 9999999 5", strings.Repeat("0 ", 199) + "1000001"}},
	} {
		for _, s := range x.list {
			expect(t, s[:min(len(s), 40)], shown(groove.ParsePath(s)), failed(x.e))
		}
	}
}
