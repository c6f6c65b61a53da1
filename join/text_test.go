package join_test

import (
	"math"
	"math/rand/v2"
	"strings"
	"testing"

	"lacquer/api"
	"lacquer/join"
)

// P7.7, example 6
func TestFormatPlan(t *testing.T) {
	for _, v := range []struct {
		p    api.JoinPlan
		want string
	}{
		{examplePlan(), "4,0 1 1,2 0 0"},
		{api.JoinPlan{}, "0"},
		{planned(200), "200"},
		{planned(7, [3]int{0, 0, 0}), "7,0 0 0"},
		{planned(200, [3]int{0, 5, -100}, [3]int{199, 0, 100}), "200,0 5 -100,199 0 100"},
		{planned(-5, [3]int{-1, -2, -3}, [3]int{1000, 7, 1234}), "-5,-1 -2 -3,1000 7 1234"},
		{planned(math.MinInt, [3]int{math.MaxInt, math.MinInt, 0}), "-9223372036854775808,9223372036854775807 -9223372036854775808 0"},
		{planned(1, make([][3]int, 30000)...), "1" + strings.Repeat(",0 0 0", 30000)},
	} {
		if s := join.FormatPlan(v.p); s != v.want {
			t.Errorf("%.99q, want %.99q", s, v.want)
		}
	}
}

// somePlan returns a plan without errors.
func somePlan(d *rand.Rand) api.JoinPlan {
	p := planned(between(d, 1, 200))
	for first := 0; first < p.Length && len(p.Pieces) < 20; first += between(d, 1, 40) {
		p.Pieces = append(p.Pieces, api.JoinPiece{From: first, Source: d.IntN(6), Lag: between(d, -100, 100)})
	}
	return p
}

// P7.14
func TestParsingReversesFormatting(t *testing.T) {
	d := dice(11)
	l := validPlans()
	for range 500 {
		l = append(l, somePlan(d))
	}
	for _, p := range l {
		expect(t, p, shown(join.ParsePlan(join.FormatPlan(p))), shown(p, api.OK))
	}
}

// P7.7
func TestParsePlan(t *testing.T) {
	for _, v := range []struct {
		s    string
		want api.JoinPlan
	}{
		{"4,0 1 1,2 0 0", examplePlan()},
		{"1,0 0 0", planned(1, [3]int{0, 0, 0})},
		{"200,0 5 -100,199 0 100", planned(200, [3]int{0, 5, -100}, [3]int{199, 0, 100})},
		{"10,0 0 -1", planned(10, [3]int{0, 0, -1})},
	} {
		expect(t, v, shown(join.ParsePlan(v.s)), shown(v.want, api.OK))
	}
	for _, v := range []struct {
		e    api.Errno
		list []string
	}{
		{api.ErrSyntax, []string{
			"", " ", ",", "x", "4,", ",4", ",0 0 0", "4,,0 0 0", "4,0 0 0,", "4,0 0 0,,1 0 0", "4 0 0 0", "4;0 0 0", "4,0,0,0", "4,0 0", "4,0", "4, ", "4,0 0 ", "4,0 0 0 ", "4,0 0 0 0", " 4,0 0 0", "4 ,0 0 0", "4, 0 0 0", "4,0  0 0", "4,0 0  0", "4,0 0 0\n", "4,0\t0 0", "4,0 0 0,1 0", "4,0 0 0, 1 0 0",
			"x,0 0 0", "4,x 0 0", "4,0 x 0", "4,0 0 x", "4,0 0 0x", "4,0 0 0,x",
			"-4,0 0 0", "4,-0 0 0", "4,-1 0 0", "4,0 -1 0", "4,0 0 -0", "4,0 0 --1", "4,0 0 -", "4,0 0 +1", "+4,0 0 0", "4,+0 0 0", "4,0 +1 0", "4,0 0 -+1", "4,0 0 - 1",
			"04,0 0 0", "4,00 0 0", "4,0 01 0", "4,0 0 00", "4,0 0 -01", "4,0 0 001", "4,0 0 1.0", "4,0 0 1e1", "4,0 0 0x1", "4,0 0 1_0", "4,0 0 \u0661", "4,0 0 0\x00",
			"1000,0 0 0", "4,1000 0 0", "4,0 1000 0", "4,0 0 1000", "4,0 0 -1000", "4,0 0 99999999999999999999", "99999999999999999999", "-9223372036854775808", "0001",
			// Of several errors the first one.
			"0,0 0 x", "4,1 9 101,x", "0,", strings.Repeat("x", 60000), strings.Repeat(",", 60000), strings.Repeat(" ", 60000), "4" + strings.Repeat(",0 0 0", 9999) + ",0 0",
		}},
		{api.ErrRange, []string{"0,0 0 0", "201,0 0 0", "999,0 0 0", "0", "201", "4,0 6 0", "4,0 999 0", "4,0 0 101", "4,0 0 -101", "4,0 0 999", "4,0 0 -999", "4,1 6 0", "4,0 0 0,0 6 0"}},
		{api.ErrShape, []string{"4", "1", "200"}},
		{api.ErrLarge, []string{
			join.FormatPlan(manyPieces(200, 21)), "4" + strings.Repeat(",0 9 0", 9999),
			strings.Repeat("x", 60001), strings.Repeat(",", 60001), "4" + strings.Repeat(",0 0 0", 10000), strings.Repeat("0", 1000000),
		}},
		{api.ErrOrder, []string{"4,1 0 0", "4,0 0 0,0 0 0", "4,0 0 0,4 0 0", "4,0 0 0,999 0 0", "4,0 0 0,2 0 0,1 0 0"}},
	} {
		for _, s := range v.list {
			expect(t, s[:min(len(s), 40)], shown(join.ParsePlan(s)), shown(api.JoinPlan{}, v.e))
		}
	}
}
