package speed_test

import (
	"testing"

	"lacquer/api"
	"lacquer/speed"
)

// unchanged makes a call twice, spoils its first result in between, and expects that neither the arguments nor the second result differ (R3, R4).
func unchanged[T any](t *testing.T, what string, arguments any, call func() (T, api.Errno), spoil func(T)) {
	t.Helper()
	before := shown(arguments)
	first, e := call()
	want := shown(first, e)
	if e != api.OK {
		t.Error(what, e)
	}
	spoil(first)
	expect(t, what, shown(call()), want)
	expect(t, what, shown(arguments), before)
}

func spoilMap(m api.SpeedMap) {
	for i := range m.Nodes {
		m.Nodes[i] = api.SpeedNode{Position: -1, Time: -1}
	}
}

func spoilMarks(l []api.SpeedMark) {
	for i := range l {
		l[i] = api.SpeedMark{Position: -1}
	}
}

func spoilList(l []int) {
	for i := range l {
		l[i] = -1
	}
}

// R3
func TestMapsAreNotShared(t *testing.T) {
	a, b := steady(3), mapOf(20, 200, 30, 300, 40, 410)
	unchanged(t, "part", a, func() (api.SpeedMap, api.Errno) { return speed.Part(a, 0, 1) }, spoilMap)
	unchanged(t, "whole", a, func() (api.SpeedMap, api.Errno) { return speed.Part(a, 0, 2) }, spoilMap)
	unchanged(t, "joined", []any{a, b}, func() (api.SpeedMap, api.Errno) { return speed.Joined(a, b) }, spoilMap)
	unchanged(t, "parsed", "", func() (api.SpeedMap, api.Errno) { return speed.ParseMap("0@0 1@1") }, spoilMap)
	// a has room behind its nodes that belongs to c.
	c := steady(10)
	a.Nodes = c.Nodes[:3]
	unchanged(t, "joined", []any{a, b, c}, func() (api.SpeedMap, api.Errno) { return speed.Joined(a, b) }, spoilMap)
	for _, m := range []api.SpeedMap{a, b, c} {
		unchanged(t, "time", m, func() (api.Range, api.Errno) { return speed.TimeAt(m, 20) }, func(api.Range) {})
		unchanged(t, "position", m, func() (api.Range, api.Errno) { return speed.PositionAt(m, 200) }, func(api.Range) {})
		unchanged(t, "rate", m, func() (api.Frac, api.Errno) { return speed.RateAt(m, 1) }, func(api.Frac) {})
		unchanged(t, "wow", m, func() (api.Frac, api.Errno) { f, _, e := speed.WowOf(m); return f, e }, func(api.Frac) {})
	}
}

// R3
func TestEvidenceIsNotShared(t *testing.T) {
	v, clash := manyMarks(12), grouped(12, 2)
	x := tone(span(5, 6), span(100, 102), 0, 10, 21)
	unchanged(t, "marks", x, func() ([]api.SpeedMark, api.Errno) { return speed.MarksOf(x) }, spoilMarks)
	unchanged(t, "any map", v, func() (api.SpeedMap, api.Errno) { return speed.AnyMap(v) }, spoilMap)
	unchanged(t, "fewest map", v, func() (api.SpeedMap, api.Errno) { return speed.FewestMap(v) }, spoilMap)
	unchanged(t, "outliers", clash, func() ([]int, api.Errno) { return speed.Outliers(clash) }, spoilList)
	unchanged(t, "clash", clash, func() ([2]int, api.Errno) { return speed.ClashOf(clash) }, func([2]int) {})
	unchanged(t, "enclosure", v, func() (api.Range, api.Errno) { return speed.EnclosureAt(v, 15) }, func(api.Range) {})
	m := steady(12)
	unchanged(t, "accepts", []any{v, m}, func() (int, api.Errno) { return speed.Accepts(v, m) }, func(int) {})
}

// R4: which of several maps is returned does not depend on chance.
func TestMapsAreAlwaysTheSame(t *testing.T) {
	v := bentEvidence(dice(19), 20)
	want := shown(speed.FewestMap(v))
	for range 20 {
		expect(t, v, shown(speed.FewestMap(v)), want)
	}
}
