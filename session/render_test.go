package session_test

import (
	"fmt"
	"math/big"
	"math/rand/v2"
	"slices"
	"strings"
	"testing"

	"lacquer/api"
	"lacquer/click"
	"lacquer/join"
	"lacquer/resample"
	"lacquer/session"
	"lacquer/spectrum"
)

// gained is the document's definition, in exact fractions.
func gained(text string, x []int) []int {
	var y []int
	for _, sample := range x {
		r, _ := new(big.Rat).SetString(text)
		r.Mul(r, big.NewRat(int64(sample), 1))
		r.Add(r, big.NewRat(1, 2))
		// The denominator is greater than 0, so that Div rounds downwards.
		y = append(y, int(new(big.Int).Div(r.Num(), r.Denom()).Int64()))
	}
	return y
}

// made is the signal that the document's table names for inputs.
func made(x api.SessionStep, inputs [][]int) ([]int, api.Errno) {
	switch x.Kind {
	case api.SessionResample:
		rules, _ := resample.ParseRules(x.Text)
		return resample.Resampled(rules, inputs[0])
	case api.SessionMend:
		rules, _ := click.ParseRules(x.Text)
		return click.Mended(rules, inputs[0])
	case api.SessionEdit:
		edit, _ := spectrum.ParseEdit(x.Text)
		return spectrum.Edited(edit, inputs[0])
	case api.SessionJoin:
		plan, _ := join.ParsePlan(x.Text)
		return join.Joined(plan, inputs)
	case api.SessionGain:
		return gained(x.Text, inputs[0]), api.OK
	}
	var lo, hi int
	fmt.Sscan(x.Text, &lo, &hi)
	if hi >= len(inputs[0]) {
		return nil, api.ErrMissing
	}
	return inputs[0][lo : hi+1], api.OK
}

// resultOf is the document's definition of a result. The results of steps in kept are taken from there.
func resultOf(s []api.SessionSource, l []api.SessionStep, name string, kept map[string]api.SessionResult) api.SessionResult {
	if r, ok := kept[name]; ok {
		return r
	}
	x, _ := stepOf(l, name)
	var inputs [][]int
	for _, input := range x.Inputs {
		if _, isStep := stepOf(l, input); isStep {
			r := resultOf(s, l, input, kept)
			if r.Error != api.OK {
				return result(name, r.Error)
			}
			inputs = append(inputs, r.Signal)
		}
		for _, source := range s {
			if source.Name == input {
				inputs = append(inputs, source.Signal)
			}
		}
	}
	y, e := made(x, inputs)
	if e == api.OK && len(y) > 256 {
		e = api.ErrLarge
	}
	for _, sample := range y {
		if e == api.OK && (sample > maxSample || sample < -maxSample) {
			e = api.ErrBreak
		}
	}
	if e != api.OK {
		y = nil
	}
	return result(name, e, y...)
}

func allResults(s []api.SessionSource, l []api.SessionStep) []api.SessionResult {
	var all []api.SessionResult
	for _, x := range l {
		if x.Active {
			all = append(all, resultOf(s, l, x.Name, nil))
		}
	}
	return all
}

// P8.4, P8.8: results are compared with the definition
func TestRender(t *testing.T) {
	d := dice(7)
	counts := map[api.Errno]int{}
	for range 500 {
		l := someSteps(d)
		s := example()
		for i := range s {
			s[i].Signal = someSignal(d, oneOf(d, []int{0, 3, 9, 60, 256}))
		}
		want := allResults(s, l)
		expect(t, l, shown(session.RenderAll(s, l)), shown(want, api.OK))
		for _, r := range want {
			counts[r.Error]++
			expect(t, r, shown(session.Render(s, l, r.Name)), shown(r.Signal, r.Error))
		}
		essence, e := session.Essence(s, l)
		expect(t, e, shown(session.RenderAll(s, essence)), shown(want, api.OK))
	}
	for _, e := range []api.Errno{api.OK, api.ErrLarge, api.ErrBreak, api.ErrMissing, api.ErrGap} {
		if counts[e] < 5 {
			t.Error("the examples are one-sided:", counts)
		}
	}
}

func someSignal(d *rand.Rand, count int) []int {
	x := make([]int, count)
	for i := range x {
		x[i] = between(d, -maxSample, maxSample) / oneOf(d, []int{1, 10, 1000})
	}
	return x
}

// P8.4, the examples 1, 3, 6, and the edge cases
func TestRenderOfTheExamples(t *testing.T) {
	s := sources(source("a", 10, 20, 30, 40), source("b", 1, 2, 3), source("c", -3, -2, -1, 0, 1, 2, 3), source("e"), source("f", make([]int, 256)...), source("g", 0, maxSample, -maxSample, 0))
	for _, v := range []struct {
		text string
		want []int
		e    api.Errno
	}{
		{"gain:a:ann:0:3/2", []int{15, 30, 45, 60}, api.OK}, {"gain:a:ann:0:1/4", []int{3, 5, 8, 10}, api.OK}, {"gain:a:ann:0:1000/1", nil, api.OK},
		{"gain:c:ann:0:1/2", []int{-1, -1, 0, 0, 1, 1, 2}, api.OK}, {"gain:c:ann:0:-1/2", []int{2, 1, 1, 0, 0, -1, -1}, api.OK}, {"gain:c:ann:0:2/4", []int{-1, -1, 0, 0, 1, 1, 2}, api.OK}, {"gain:c:ann:0:1/3", []int{-1, -1, 0, 0, 0, 1, 1}, api.OK},
		{"gain:c:ann:0:0/1000", []int{0, 0, 0, 0, 0, 0, 0}, api.OK}, {"gain:c:ann:0:-1/1", []int{3, 2, 1, 0, -1, -2, -3}, api.OK}, {"gain:c:ann:0:1/1", []int{-3, -2, -1, 0, 1, 2, 3}, api.OK},
		{"gain:g:ann:0:-1/1", []int{0, -maxSample, maxSample, 0}, api.OK}, {"gain:g:ann:0:1000/1000", []int{0, maxSample, -maxSample, 0}, api.OK}, {"gain:g:ann:0:1000/999", nil, api.ErrBreak}, {"gain:g:ann:0:-1000/999", nil, api.ErrBreak}, {"gain:e:ann:0:1000/1", nil, api.OK}, {"gain:f:ann:0:1000/1", make([]int, 256), api.OK},
		{"cut:a:ann:0:0 3", []int{10, 20, 30, 40}, api.OK}, {"cut:a:ann:0:3 3", []int{40}, api.OK}, {"cut:a:ann:0:0 0", []int{10}, api.OK}, {"cut:a:ann:0:1 2", []int{20, 30}, api.OK}, {"cut:a:ann:0:0 4", nil, api.ErrMissing}, {"cut:a:ann:0:4 4", nil, api.ErrMissing}, {"cut:a:ann:0:9999999 9999999", nil, api.ErrMissing}, {"cut:e:ann:0:0 0", nil, api.ErrMissing},
		{"join:a,b:ann:0:3,0 1 0,1 0 1", []int{1, 30, 40}, api.OK}, {"join:a,b:ann:0:3,0 2 0", nil, api.ErrMissing}, {"join:a,a,b,a,a,b:ann:0:2,0 5 0,1 4 0", []int{1, 20}, api.OK}, {"join:a:ann:0:5,0 0 0", nil, api.ErrGap}, {"join:f:ann:0:5,0 0 0", nil, api.ErrLarge},
		{"resample:f:ann:0:ratio 1 1 2", nil, api.ErrLarge}, {"resample:f:ann:0:ratio 1 1 1", make([]int, 256), api.OK}, {"resample:e:ann:0:ratio 1 1 1", nil, api.OK}, {"resample:a:ann:0:ratio 1 1 2", []int{10, 15, 20, 25, 30, 35, 40}, api.OK},
		{"mend:f:ann:0:median 1 5 2 3 50", nil, api.ErrLarge}, {"mend:c:ann:0:median 1 5 2 3 50", []int{-3, -2, -1, 0, 1, 2, 3}, api.OK},
		{"edit:a:ann:0:gain 0 9 0 4 8", nil, api.OK}, {"edit:g:ann:0:gain 0 9 0 4 32", nil, api.ErrBreak},
	} {
		x := step("+k:" + v.text)
		want := result("k", v.e, v.want...)
		if v.want == nil && v.e == api.OK {
			want = resultOf(s, []api.SessionStep{x}, "k", nil)
		}
		expect(t, v, shown(session.Render(s, []api.SessionStep{x}, "k")), shown(want.Signal, want.Error))
		expect(t, v, shown(session.RenderAll(s, []api.SessionStep{x})), shown([]api.SessionResult{want}, api.OK))
	}
}

func result(name string, e api.Errno, signal ...int) api.SessionResult {
	return api.SessionResult{Name: name, Signal: signal, Error: e}
}

func results(l ...api.SessionResult) []api.SessionResult {
	return l
}

// P8.4, the examples 1, 3, 6
func TestRenderAll(t *testing.T) {
	for _, v := range []struct {
		l    []api.SessionStep
		want []api.SessionResult
	}{
		{nil, results()},
		{steps(loud, part), results(result("loud", api.OK, 15, 30, 45, 60), result("part", api.OK, 30, 45))},
		{steps("+loud:gain:a:ann:0:1/4", part), results(result("loud", api.OK, 3, 5, 8, 10), result("part", api.OK, 5, 8))},
		{steps("+loud:gain:a:ann:0:1/1", "+part:cut:loud:ann:0:0 0"), results(result("loud", api.OK, 10, 20, 30, 40), result("part", api.OK, 10))},
		{steps("+loud:gain:a:ann:0:1000/1", part), results(result("loud", api.ErrBreak), result("part", api.ErrBreak))},
		{steps(loud, "-part:cut:loud:ann:2:1 2"), results(result("loud", api.OK, 15, 30, 45, 60))},
		{steps("+J:gain:k:ann:0:-1/1", "+k:cut:b:ann:0:0 1"), results(result("J", api.OK, -1, -2), result("k", api.OK, 1, 2))},
		// The error of the first input that has one.
		{steps("+j:join:b,l,k:ann:0:1,0 0 0", "+k:gain:a:ann:0:1000/1", "+l:cut:a:ann:0:0 4"), results(result("j", api.ErrMissing), result("k", api.ErrBreak), result("l", api.ErrMissing))},
		{steps("+j:join:b,k,l:ann:0:9,0 0 0", "+k:gain:a:ann:0:1000/1", "+l:cut:a:ann:0:0 4"), results(result("j", api.ErrBreak), result("k", api.ErrBreak), result("l", api.ErrMissing))},
		{steps("+j:cut:m:ann:0:9 9", "+k:gain:a:ann:0:1000/1", "+m:gain:k:ann:0:1/1"), results(result("j", api.ErrBreak), result("k", api.ErrBreak), result("m", api.ErrBreak))},
	} {
		expect(t, v, shown(session.RenderAll(example(), v.l)), shown(v.want, api.OK))
	}
}

// P8.4: the name of an active step
func TestRenderOfNames(t *testing.T) {
	l := steps(loud, "-part:cut:loud:ann:2:1 2")
	for _, name := range []string{"a", "b", "k", "", "Loud", "loud ", strings.Repeat("x", 1000)} {
		expect(t, name, shown(session.Render(example(), l, name)), shown([]int{}, api.ErrMissing))
		expect(t, name, shown(session.UndoPlan(example(), l, name)), shown([]string{}, api.ErrMissing))
	}
	expect(t, "part", shown(session.Render(example(), l, "part")), shown([]int{}, api.ErrState))
	expect(t, "loud", shown(session.Render(example(), l, "loud")), shown([]int{15, 30, 45, 60}, api.OK))
	expect(t, "none", shown(session.Render(example(), nil, "loud")), shown([]int{}, api.ErrMissing))
}

// P8.4: a gain is rounded to the nearest number, halves upwards
func TestGains(t *testing.T) {
	d := dice(8)
	for range 2000 {
		text := fmt.Sprintf("%d/%d", between(d, -1000, 1000), between(d, 1, 1000))
		s := sources(source("a", between(d, -40, 40), between(d, -30, 30), between(d, -9, 9)))
		want := gained(text, s[0].Signal)
		e := api.OK
		if slices.Max(want) > maxSample || slices.Min(want) < -maxSample {
			want, e = nil, api.ErrBreak
		}
		expect(t, text, shown(session.Render(s, steps("+k:gain:a:ann:0:"+text), "k")), shown(want, e))
	}
}
