package session_test

import (
	"math"
	"strings"
	"testing"

	"lacquer/api"
	"lacquer/session"
)

// P8.7, example 8
func TestFormatStep(t *testing.T) {
	for _, v := range []struct {
		x    api.SessionStep
		want string
	}{
		{api.SessionStep{Name: "loud", Kind: api.SessionGain, Inputs: []string{"a"}, Text: "3/2", By: "ann", Active: true}, "+loud:gain:a:ann:0:3/2"},
		{api.SessionStep{Name: "k", Kind: api.SessionJoin, Inputs: []string{"a", "b", "a"}, Text: "4,0 1 1,2 0 0", By: "bob", Doubt: 3}, "-k:join:a,b,a:bob:3:4,0 1 1,2 0 0"},
		{api.SessionStep{Kind: api.SessionResample}, "-:resample:::0:"}, {api.SessionStep{Kind: api.SessionMend, Doubt: -7}, "-:mend:::-7:"}, {api.SessionStep{Kind: api.SessionEdit, Doubt: 10, Text: ":x:"}, "-:edit:::10::x:"}, {api.SessionStep{Kind: api.SessionCut, Inputs: []string{""}, Active: true}, "+:cut:::0:"}, {api.SessionStep{Kind: api.SessionCut, Inputs: []string{"", ""}, Name: "1:2"}, "-1:2:cut:,::0:"},
		{api.SessionStep{Kind: -1, Name: "k"}, "-k:?:::0:"}, {api.SessionStep{Kind: 6, Active: true}, "+:?:::0:"}, {api.SessionStep{Kind: math.MinInt, Doubt: math.MinInt}, "-:?:::-9223372036854775808:"}, {api.SessionStep{Kind: math.MaxInt, Doubt: math.MaxInt}, "-:?:::9223372036854775807:"},
	} {
		if s := session.FormatStep(v.x); s != v.want {
			t.Errorf("%q, want %q", s, v.want)
		}
	}
}

// P8.7, example 8
func TestFormatEvent(t *testing.T) {
	for _, v := range []struct {
		x    api.SessionEvent
		want string
	}{
		{api.SessionEvent{Step: api.SessionStep{Name: "loud", Kind: api.SessionGain, Inputs: []string{"a"}, Text: "3/2", By: "ann", Active: true}}, "add +loud:gain:a:ann:0:3/2"},
		{api.SessionEvent{Step: api.SessionStep{Name: "loud", Kind: 9, Inputs: []string{"a", "b"}, Text: "x"}}, "add +loud:?:a,b::0:x"},
		{api.SessionEvent{Kind: api.SessionChange, Step: api.SessionStep{Name: "loud", Kind: 9, Inputs: []string{"a"}, Text: "1/4", By: "ann", Doubt: 1, Active: true}}, "change loud:ann:1:1/4"}, {api.SessionEvent{Kind: api.SessionChange}, "change ::0:"}, {api.SessionEvent{Kind: api.SessionChange, Step: api.SessionStep{Doubt: -12, Text: " : "}}, "change ::-12: : "},
		{api.SessionEvent{Kind: api.SessionUndo, Step: api.SessionStep{Name: "part"}}, "undo part"}, {api.SessionEvent{Kind: api.SessionRedo, Step: api.SessionStep{Name: "part"}}, "redo part"}, {api.SessionEvent{Kind: api.SessionUndo, Step: step(loud)}, "undo loud"}, {api.SessionEvent{Kind: api.SessionRedo}, "redo "},
		{api.SessionEvent{Kind: -1, Step: step(loud)}, ""}, {api.SessionEvent{Kind: 4, Step: step(loud)}, ""}, {api.SessionEvent{Kind: math.MinInt}, ""}, {api.SessionEvent{Kind: math.MaxInt}, ""},
	} {
		if s := session.FormatEvent(v.x); s != v.want {
			t.Errorf("%q, want %q", s, v.want)
		}
	}
}

// P8.14
func TestParsingReversesFormatting(t *testing.T) {
	d := dice(14)
	l := validSteps()
	for range 300 {
		l = append(l, someSteps(d))
	}
	for _, s := range rightSteps() {
		l = append(l, steps(s))
	}
	for _, list := range l {
		for _, x := range list {
			expect(t, x, shown(session.ParseStep(session.FormatStep(x))), shown(x, api.OK))
		}
	}
	list := validEvents()
	for range 2000 {
		if x := someEvent(d, nil, fewNames()); session.CheckEvent(x) == api.OK {
			list = append(list, x)
		}
	}
	for _, x := range list {
		expect(t, x, shown(session.ParseEvent(session.FormatEvent(x))), shown(x, api.OK))
	}
}

// malformedSteps are no strings of steps.
func malformedSteps() []string {
	l := []string{
		"", " ", "+", "-", ":", ":::::", "loud:gain:a:ann:0:3/2", " +loud:gain:a:ann:0:3/2", "*loud:gain:a:ann:0:3/2", "\u2212loud:gain:a:ann:0:3/2",
		"+loud", "+loud:gain", "+loud:gain:a", "+loud:gain:a:ann", "+loud:gain:a:ann:0", "+loud gain a ann 0 3/2", "+loud;gain;a;ann;0;3/2", "+gain:a:ann:0:3/2",
		"+loud::a:ann:0:3/2", "+loud:?:a:ann:0:3/2", "+loud:4:a:ann:0:3/2", "+loud:Gain:a:ann:0:3/2", "+loud: gain:a:ann:0:3/2", "+loud:gain :a:ann:0:3/2", "+loud:gains:a:ann:0:3/2", "+loud:gai:a:ann:0:3/2", "+loud:add:a:ann:0:3/2", "+loud:joincut:a:ann:0:3/2",
		"+loud:gain:a:ann::3/2", "+loud:gain:a:ann:x:3/2", "+loud:gain:a:ann:00:3/2", "+loud:gain:a:ann:01:3/2", "+loud:gain:a:ann:10:3/2", "+loud:gain:a:ann:-1:3/2", "+loud:gain:a:ann:-:3/2", "+loud:gain:a:ann:+:3/2", "+loud:gain:a:ann:+1:3/2", "+loud:gain:a:ann: 0:3/2", "+loud:gain:a:ann:0 :3/2", "+loud:gain:a:ann: :3/2", "+loud:gain:a:ann:\u0661:3/2",
		// Of several errors the first one.
		"+1:gain:a:ann:x:", "+:x::::", "+loud:?:a:1:9:" + strings.Repeat("x", 300),
		strings.Repeat("x", 100000), strings.Repeat(":", 100000), "+" + strings.Repeat(":", 100000), "+" + strings.Repeat("+", 100000),
	}
	return l
}

// wrongSteps are strings of steps that have an error alone.
func wrongSteps() map[string]api.Errno {
	return map[string]api.Errno{
		"+:gain:a:ann:0:3/2": api.ErrName, "++loud:gain:a:ann:0:3/2": api.ErrName, "+-loud:gain:a:ann:0:3/2": api.ErrName, "--loud:gain:a:ann:0:3/2": api.ErrName, "+ loud:gain:a:ann:0:3/2": api.ErrName, "+lo ud:gain:a:ann:0:3/2": api.ErrName,
		"+k:gain::ann:0:1/1": api.ErrShape, "-k:join::ann:0:3,0 0 0": api.ErrShape, "+k:gain:a,b:ann:0:1/1": api.ErrShape, "+k:gain:,:ann:0:1/1": api.ErrShape, "+k:join:a,b,a,b,a,b,a:ann:0:3,0 0 0": api.ErrShape, "+k:join:" + strings.Repeat(",", 100000) + ":ann:0:3,0 0 0": api.ErrShape,
		"+k:join:,:ann:0:3,0 0 0": api.ErrName, "+k:join:a,:ann:0:3,0 0 0": api.ErrName, "+k:join:,a:ann:0:3,0 0 0": api.ErrName, "+k:join:a, b:ann:0:3,0 0 0": api.ErrName, "+k:gain:a b:ann:0:1/1": api.ErrName, "+k:gain:1:ann:0:1/1": api.ErrName,
		"+k:gain:a::0:1/1": api.ErrName, "+k:gain:a:a n:0:1/1": api.ErrName, "+k:gain:a:ann:4:1/1": api.ErrRange, "+k:gain:a:ann:9:x": api.ErrRange,
		"+k:gain:a:ann:0:": api.ErrSyntax, "+k:gain:a:ann:0:1/1:": api.ErrSyntax, "+k:gain:a:ann:0::1/1": api.ErrSyntax, "+k:cut:a:ann:0:1/1": api.ErrSyntax, "+k:gain:a:ann:0:1/0": api.ErrRange, "+k:cut:a:ann:0:2 1": api.ErrOrder, "+k:gain:a:ann:0:" + strings.Repeat("x", 201): api.ErrLarge, "-k:gain:a:ann:0:" + strings.Repeat(":", 100000): api.ErrLarge, "+k:gain:a:ann:4:" + strings.Repeat("x", 201): api.ErrRange,
	}
}

// P8.7
func TestParseStep(t *testing.T) {
	for _, v := range []struct {
		s    string
		want api.SessionStep
	}{
		{"+loud:gain:a:ann:0:3/2", api.SessionStep{Name: "loud", Kind: api.SessionGain, Inputs: []string{"a"}, Text: "3/2", By: "ann", Active: true}},
		{"-k:join:a,b,a:bob:3:4,0 1 1,2 0 0", api.SessionStep{Name: "k", Kind: api.SessionJoin, Inputs: []string{"a", "b", "a"}, Text: "4,0 1 1,2 0 0", By: "bob", Doubt: 3}},
		{"+a:cut:a:a:1:0 9999999", api.SessionStep{Name: "a", Kind: api.SessionCut, Inputs: []string{"a"}, Text: "0 9999999", By: "a", Doubt: 1, Active: true}},
		{"-k:resample:a:ann:2:ratio 1 1 2", api.SessionStep{Name: "k", Inputs: []string{"a"}, Text: "ratio 1 1 2", By: "ann", Doubt: 2}},
		{"-k:mend:a:ann:2:median 1 5 2 3 50", api.SessionStep{Name: "k", Kind: api.SessionMend, Inputs: []string{"a"}, Text: "median 1 5 2 3 50", By: "ann", Doubt: 2}},
		{"-k:edit:a:ann:2:gain 0 1 0 4 8", api.SessionStep{Name: "k", Kind: api.SessionEdit, Inputs: []string{"a"}, Text: "gain 0 1 0 4 8", By: "ann", Doubt: 2}},
	} {
		expect(t, v, shown(session.ParseStep(v.s)), shown(v.want, api.OK))
	}
	for _, s := range malformedSteps() {
		expect(t, s, shown(session.ParseStep(s)), shown(api.SessionStep{}, api.ErrSyntax))
	}
	for s, e := range wrongSteps() {
		expect(t, s, shown(session.ParseStep(s)), shown(api.SessionStep{}, e))
	}
	for _, x := range stepsAlone() {
		s := session.FormatStep(x.x)
		// Not every step is the one with its string.
		want := step(s)
		isSame := shown(want) == shown(x.x) && len(want.Inputs) == len(x.x.Inputs)
		if isSame && want.Kind >= 0 && 0 <= want.Doubt && want.Doubt <= 9 {
			expect(t, s, shown(session.ParseStep(s)), shown(api.SessionStep{}, x.e))
		}
	}
}

// P8.7, example 8
func TestParseEvent(t *testing.T) {
	for _, s := range []string{"add " + loud, "change loud:ann:1:1/4", "undo part", "redo part", "change k:bob:3:", "change k:bob:3::x:y: ", "undo a"} {
		expect(t, s, shown(session.ParseEvent(s)), shown(event(s), api.OK))
	}
	syntax := []string{
		"", " ", "add", "undo", "redo", "change", "Undo part", "undone part", " undo part", "und part", "undo\tpart", "? part", "remove part", "0 part", "undo:part", "undopart", "\u00e4 part",
		"change ", "change loud", "change loud:ann", "change loud:ann:0", "change loud:ann:x:1/4", "change loud:ann::1/4", "change loud:ann:00:1/4", "change loud:ann:10:1/4", "change loud:ann:-1:1/4", "change loud:ann:+1:1/4", "change loud:ann: 1:1/4", "change 1:1:x:1/4",
		strings.Repeat("x", 100000), strings.Repeat(" ", 100000), "change " + strings.Repeat(":", 100000),
	}
	for _, s := range malformedSteps() {
		syntax = append(syntax, "add "+s)
	}
	for _, s := range syntax {
		expect(t, s, shown(session.ParseEvent(s)), shown(api.SessionEvent{}, api.ErrSyntax))
	}
	for s, e := range wrongSteps() {
		expect(t, s, shown(session.ParseEvent("add "+s)), shown(api.SessionEvent{}, e))
	}
	for s, e := range map[string]api.Errno{
		// A step that is not active has the form of a step.
		"add -loud:gain:a:ann:0:3/2": api.ErrForm, "add -loud:gain:a:ann:0:x": api.ErrSyntax, "add -loud:gain:a:ann:4:3/2": api.ErrRange,
		"undo ": api.ErrName, "redo ": api.ErrName, "undo part ": api.ErrName, "undo  part": api.ErrName, "redo part:ann": api.ErrName, "undo 1": api.ErrName, "redo " + strings.Repeat("a", 13): api.ErrName, "undo " + strings.Repeat("a", 100000): api.ErrName,
		"change :ann:1:1/4": api.ErrName, "change loud::1:1/4": api.ErrName, "change  loud:ann:1:1/4": api.ErrName, "change loud:ann :1:1/4": api.ErrName, "change loud:ann:4:1/4": api.ErrRange, "change loud:ann:9:1/4": api.ErrRange, "change loud:1:9:1/4": api.ErrName, "change loud:ann:0:" + strings.Repeat("x", 201): api.ErrLarge, "change loud:ann:4:" + strings.Repeat("x", 201): api.ErrRange,
	} {
		expect(t, s, shown(session.ParseEvent(s)), shown(api.SessionEvent{}, e))
	}
}
