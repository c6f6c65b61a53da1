package session_test

import (
	"fmt"
	"testing"

	"lacquer/api"
	"lacquer/session"
)

// P8.1
func TestCheckSources(t *testing.T) {
	l := [][]api.SessionSource{
		nil, example(), sources(source("a")), sources(source("B"), source("a"), source("a-"), source("a9"), source("aa"), source("b")),
		sources(source("a", make([]int, 256)...), source("b", maxSample, -maxSample, 0)), sources(source("a", signal(256, 255, -maxSample)...)),
	}
	for _, name := range rightNames() {
		l = append(l, sources(source(name, 1)))
	}
	for _, s := range l {
		expect(t, s, shown(session.CheckSources(s)), shown(0, api.OK))
	}
	for _, x := range sourcesWithErrors() {
		expect(t, x.e, shown(session.CheckSources(x.l)), shown(x.index, x.e))
	}
}

func validSteps() [][]api.SessionStep {
	l := [][]api.SessionStep{
		nil, steps(loud), steps(loud, part), steps("-loud:gain:a:ann:0:3/2", "-part:cut:loud:ann:2:1 2"), steps(loud, "-part:cut:loud:ann:2:1 2"), named(16),
		// A step may use the same input twice, and may come before its inputs.
		steps("+J:join:a,b,a,k,k,a:ann:3:3,0 1 0", "+k:gain:l:ann:0:1/1", "+l:gain:b:ann:0:1/1"),
		steps("+k:gain:m:ann:0:1/1", "+l:gain:m:ann:0:1/1", "+m:gain:a:ann:0:1/1", "+n:join:k,l:ann:0:3,0 1 0"),
		steps("+K:gain:a:ann:0:1/1", "+k:gain:a:ann:0:1/1", "+k-:gain:a:ann:0:1/1", "+k9:gain:a:ann:0:1/1", "+kk:gain:a:ann:0:1/1"),
	}
	for _, s := range rightSteps()[:5] {
		l = append(l, steps(s), steps("-"+s[1:]))
	}
	for _, text := range []string{"1000/1000", "-1000/1", "0/1", "0/1000", "999/999", "2/4", "-1/3"} {
		l = append(l, steps("+k:gain:a:ann:3:"+text))
	}
	for _, text := range []string{"0 0", "0 9999999", "9999999 9999999", "1 2", "3 3"} {
		l = append(l, steps("+k:cut:a:ann:3:"+text))
	}
	for _, name := range rightNames() {
		if name != "a" {
			l = append(l, steps("+"+name+":gain:a:"+name+":0:1/1"))
		}
	}
	return l
}

// P8.1
func TestCheckSteps(t *testing.T) {
	for _, l := range validSteps() {
		expect(t, l, shown(session.CheckSteps(example(), l)), shown(0, api.OK))
	}
	for _, x := range stepsWithErrors() {
		expect(t, x, shown(session.CheckSteps(example(), x.l)), shown(x.index, x.e))
	}
	for _, x := range sourcesWithErrors() {
		for _, l := range [][]api.SessionStep{nil, steps(loud, part), named(17), steps(part, loud)} {
			expect(t, x.e, shown(session.CheckSteps(x.l, l)), shown(0, x.e))
		}
	}
	expect(t, "no sources", shown(session.CheckSteps(nil, steps(loud))), shown(0, api.ErrMissing))
	expect(t, "no sources", shown(session.CheckSteps(nil, nil)), shown(0, api.OK))
	six := sources(source("a"), source("b"), source("c"), source("d"), source("e"), source("f"))
	expect(t, "six", shown(session.CheckSteps(six, steps("+k:join:f,e,d,c,b,a:ann:0:3,0 5 0"))), shown(0, api.OK))
}

// P8.1: the rules have at most 200 bytes
func TestLongRules(t *testing.T) {
	plan := "200,0 0 0"
	for from := 100; from < 118; from++ {
		plan += fmt.Sprintf(",%d 0 -10", from)
	}
	for _, v := range []struct {
		last string
		e    api.Errno
	}{{",118 0 -10", api.OK}, {",118 0 -100", api.OK}, {",118 0 -1000", api.ErrLarge}, {",118 0 -100 ", api.ErrLarge}} {
		x := api.SessionStep{Name: "k", Kind: api.SessionJoin, Inputs: []string{"a"}, By: "ann", Text: plan + v.last}
		expect(t, v, shown(session.CheckSteps(example(), []api.SessionStep{x})), shown(0, v.e))
	}
}

// needed is the document's definition: what all inputs are, and what these need.
func needed(l []api.SessionStep, name string) map[string]bool {
	found := map[string]bool{}
	for range l {
		for _, x := range l {
			if x.Name == name || found[x.Name] {
				for _, input := range x.Inputs {
					found[input] = true
				}
			}
		}
	}
	return found
}

// P8.1: circles are compared with the definition
func TestCircles(t *testing.T) {
	d := dice(1)
	counts := map[api.Errno]int{}
	for range 3000 {
		var l []api.SessionStep
		names := []string{"j", "k", "l", "m", "n"}[:between(d, 1, 5)]
		for _, name := range names {
			x := someStep(d, name, append([]string{"a", "b", "a", "b"}, names...))
			x.Active = false
			l = append(l, x)
		}
		index, want := 0, api.OK
		for i, x := range l {
			if want == api.OK && needed(l, x.Name)[x.Name] {
				index, want = i, api.ErrClash
			}
		}
		counts[want]++
		expect(t, l, shown(session.CheckSteps(example(), l)), shown(index, want))
	}
	if counts[api.OK] < 500 || counts[api.ErrClash] < 500 {
		t.Error("the examples are one-sided:", counts)
	}
}
