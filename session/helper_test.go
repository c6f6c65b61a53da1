package session_test

import (
	"fmt"
	"math"
	"math/rand/v2"
	"slices"
	"strconv"
	"strings"
	"testing"

	"lacquer/api"
	"lacquer/session"
)

const maxSample = 32767

// shown returns the results of a call as a string in which a nil slice and an empty one are alike.
func shown(results ...any) string {
	return fmt.Sprintf("%+v\n", results)
}

func expect(t *testing.T, what any, got, want string) {
	t.Helper()
	if got != want {
		t.Errorf("%s: %swant %s", brief(what), got, want)
	}
}

func brief(what any) string {
	s := fmt.Sprintf("%+v", what)
	return s[:min(len(s), 500)]
}

// beyond returns numbers that are just beyond the limits lo and hi, and extreme ones.
func beyond(lo, hi int) []int {
	return []int{lo - 1, hi + 1, math.MinInt, math.MinInt + 1, math.MaxInt - 1, math.MaxInt}
}

// dice returns a source of numbers that are always the same.
func dice(seed uint64) *rand.Rand {
	return rand.New(rand.NewPCG(seed, 8))
}

// between returns a number from lo to hi.
func between(d *rand.Rand, lo, hi int) int {
	return lo + d.IntN(hi-lo+1)
}

func oneOf[T any](d *rand.Rand, l []T) T {
	return l[d.IntN(len(l))]
}

func kindWords() []string {
	return []string{"resample", "mend", "edit", "join", "gain", "cut"}
}

func eventWords() []string {
	return []string{"add", "change", "undo", "redo"}
}

// step returns the step with this string, without a look at its errors.
func step(s string) api.SessionStep {
	p := strings.SplitN(s[1:], ":", 6)
	doubt, _ := strconv.Atoi(p[4])
	x := api.SessionStep{Name: p[0], Kind: slices.Index(kindWords(), p[1]), By: p[3], Doubt: doubt, Text: p[5], Active: s[0] == '+'}
	if p[2] != "" {
		x.Inputs = strings.Split(p[2], ",")
	}
	return x
}

func steps(l ...string) []api.SessionStep {
	var x []api.SessionStep
	for _, s := range l {
		x = append(x, step(s))
	}
	return x
}

// event returns the event with this string, without a look at its errors.
func event(s string) api.SessionEvent {
	word, text, _ := strings.Cut(s, " ")
	e := api.SessionEvent{Kind: slices.Index(eventWords(), word), Step: api.SessionStep{Name: text}}
	switch e.Kind {
	case api.SessionAdd:
		e.Step = step(text)
	case api.SessionChange:
		p := strings.SplitN(text, ":", 4)
		doubt, _ := strconv.Atoi(p[2])
		e.Step = api.SessionStep{Name: p[0], By: p[1], Doubt: doubt, Text: p[3]}
	}
	return e
}

func events(l ...string) []api.SessionEvent {
	var x []api.SessionEvent
	for _, s := range l {
		x = append(x, event(s))
	}
	return x
}

func source(name string, signal ...int) api.SessionSource {
	return api.SessionSource{Name: name, Signal: signal}
}

func sources(l ...api.SessionSource) []api.SessionSource {
	return l
}

// example returns the sources of the examples.
func example() []api.SessionSource {
	return sources(source("a", 10, 20, 30, 40), source("b", 1, 2, 3))
}

const (
	loud = "+loud:gain:a:ann:0:3/2"
	part = "+part:cut:loud:ann:2:1 2"
)

// named returns count steps with ascending names, all of them active.
func named(count int) []api.SessionStep {
	var l []api.SessionStep
	for i := range count {
		l = append(l, step(fmt.Sprintf("+s%04d:gain:a:ann:0:1/1", i)))
	}
	return l
}

// signal returns count zeros with a number at an index.
func signal(count, at, n int) []int {
	x := make([]int, count)
	x[at] = n
	return x
}

func wrongNames() []string {
	return []string{"", "1a", "-a", "-", "9", "a_b", "a b", " a", "a ", "\u00e4", "a\u00e4", "a\x00", "a.", "@a", "[a", "`a", "{a", "a/", "a:", "a,b", "aaaaaaaaaaaaa", strings.Repeat("a", 100000)}
}

func rightNames() []string {
	return []string{"a", "A", "z", "Z", "a-", "a9", "Z0-", "aaaaaaaaaaaa", "a-----------"}
}

// badSignals returns signals with their errors, those of samples being tooLoud.
func badSignals(tooLoud api.Errno) []api.SessionResult {
	l := []api.SessionResult{{Signal: make([]int, 257), Error: api.ErrLarge}, {Signal: signal(257, 0, maxSample+1), Error: api.ErrLarge}, {Signal: make([]int, 100000), Error: api.ErrLarge}}
	for _, n := range beyond(-maxSample, maxSample) {
		l = append(l,
			api.SessionResult{Signal: []int{n}, Error: tooLoud},
			api.SessionResult{Signal: []int{0, maxSample, -maxSample, n}, Error: tooLoud},
			api.SessionResult{Signal: signal(256, 255, n), Error: tooLoud})
	}
	return l
}

// badSources is sources with their error, and the index of the source.
type badSources struct {
	l     []api.SessionSource
	index int
	e     api.Errno
}

func sourcesWithErrors() []badSources {
	l := []badSources{
		{make([]api.SessionSource, 7), 0, api.ErrLarge}, {make([]api.SessionSource, 1000), 0, api.ErrLarge},
		{sources(source("a"), source("b"), source("c"), source("d"), source("e"), source("f"), source("g")), 0, api.ErrLarge},
		{sources(source("b"), source("a")), 1, api.ErrOrder}, {sources(source("a"), source("a")), 1, api.ErrOrder}, {sources(source("a"), source("B")), 1, api.ErrOrder},
		{sources(source("a"), source("b"), source("c"), source("d"), source("e"), source("a")), 5, api.ErrOrder}, {sources(source("ab"), source("a")), 1, api.ErrOrder}, {sources(source("a9"), source("a-")), 1, api.ErrOrder},
		// Of several errors the first one.
		{sources(source("b"), source("a", maxSample+1)), 1, api.ErrRange}, {sources(source("b"), source("a", make([]int, 257)...)), 1, api.ErrLarge}, {sources(source("b"), source("")), 1, api.ErrName},
		{sources(source("", maxSample+1), source("a"), source("a")), 0, api.ErrName}, {sources(source("b", maxSample+1), source("")), 0, api.ErrRange}, {sources(source("b"), source("a"), source("")), 1, api.ErrOrder},
	}
	for _, name := range wrongNames() {
		l = append(l, badSources{sources(source(name)), 0, api.ErrName}, badSources{sources(source("A"), source("B", 1), source(name, 2)), 2, api.ErrName})
	}
	for _, x := range badSignals(api.ErrRange) {
		l = append(l, badSources{sources(source("a", x.Signal...)), 0, x.Error}, badSources{sources(source("a"), source("b", 1), source("c", x.Signal...)), 2, x.Error})
	}
	return l
}

// badStep is a step with its error, whatever the other steps are.
type badStep struct {
	x api.SessionStep
	e api.Errno
}

// badRules are rules of a kind with their error.
type badRules struct {
	kind int
	text string
	e    api.Errno
}

func rulesWithErrors() []badRules {
	l := []badRules{
		{api.SessionResample, "", api.ErrSyntax}, {api.SessionResample, "ratio 1 2", api.ErrSyntax}, {api.SessionResample, "1/1", api.ErrSyntax}, {api.SessionResample, "ratio 2 1 2", api.ErrKind},
		{api.SessionMend, "", api.ErrSyntax}, {api.SessionMend, "median 1 5 2 3", api.ErrSyntax}, {api.SessionMend, "1/1", api.ErrSyntax}, {api.SessionMend, "median 5 5 2 3 50", api.ErrRange},
		{api.SessionEdit, "", api.ErrSyntax}, {api.SessionEdit, "gain 0 1 0 4", api.ErrSyntax}, {api.SessionEdit, "1/1", api.ErrSyntax}, {api.SessionEdit, "gain 1 0 0 4 8", api.ErrOrder},
		{api.SessionJoin, "", api.ErrSyntax}, {api.SessionJoin, "4,0 1", api.ErrSyntax}, {api.SessionJoin, "1/1", api.ErrSyntax}, {api.SessionJoin, "4,1 0 0", api.ErrOrder}, {api.SessionJoin, "4", api.ErrShape},
	}
	for _, s := range []string{"", "/", "1", "1/", "/1", "1 1", "1/1/1", "1/1 ", " 1/1", "1 /1", "1/ 1", "x/1", "1/x", "+1/1", "1/+1", "1/-1", "-1/-1", "-0/1", "1/-0", "--1/1", "-/1", "01/1", "1/01", "00/1", "-01/1", "0x1/1", "1_0/1", "1.0/1", "10000/1", "-10000/1", "1/10000", "00001/1", "99999999999999999999/1", "1/99999999999999999999", "\u0661/1", "1/1\n", "1/1\x00", "1:1", "10000/0", "0/00"} {
		l = append(l, badRules{api.SessionGain, s, api.ErrSyntax})
	}
	for _, s := range []string{"1001/1", "-1001/1", "9999/1", "-9999/1", "1/0", "0/0", "1/1001", "1/9999", "1001/0", "-1001/1001"} {
		l = append(l, badRules{api.SessionGain, s, api.ErrRange})
	}
	for _, s := range []string{"", " ", "1", "1 ", " 1", "1  2", "1 2 3", "1 2 ", " 1 2", "1/2", "1,2", "x 2", "1 x", "-1 2", "1 -2", "-0 2", "0 -0", "+1 2", "1 +2", "01 2", "1 02", "00 1", "0 00", "0x1 2", "1_0 20", "1.0 2", "10000000 10000000", "0 10000000", "00000001 2", "1 99999999999999999999", "1 2\n", "1\t2", "\u0661 2", "3 02"} {
		l = append(l, badRules{api.SessionCut, s, api.ErrSyntax})
	}
	for _, s := range []string{"1 0", "2 1", "9999999 9999998", "9999999 0", "10 9"} {
		l = append(l, badRules{api.SessionCut, s, api.ErrOrder})
	}
	return l
}

// rightSteps returns a step of each kind.
func rightSteps() []string {
	return []string{"+k:resample:a:ann:0:ratio 1 1 2", "+k:mend:a:ann:0:median 1 5 2 3 50", "+k:edit:a:ann:0:gain 0 1 0 4 8", "+k:join:a,b:ann:0:3,0 0 0,1 1 0", loud, part}
}

func stepsAlone() []badStep {
	var l []badStep
	add := func(e api.Errno, change func(*api.SessionStep)) {
		for _, s := range rightSteps() {
			x := step(s)
			change(&x)
			l = append(l, badStep{x, e})
		}
	}
	for _, name := range wrongNames() {
		add(api.ErrName, func(x *api.SessionStep) { x.Name = name })
		add(api.ErrName, func(x *api.SessionStep) { x.Inputs = []string{name} })
		add(api.ErrName, func(x *api.SessionStep) { x.By = name })
		for _, inputs := range [][]string{{name, "a"}, {"a", name}, {"a", "b", "a", "b", "a", name}} {
			l = append(l, badStep{api.SessionStep{Name: "k", Kind: api.SessionJoin, Inputs: inputs, By: "ann", Text: "3,0 0 0"}, api.ErrName})
		}
	}
	for _, kind := range beyond(0, 5) {
		add(api.ErrKind, func(x *api.SessionStep) { x.Kind = kind })
		add(api.ErrName, func(x *api.SessionStep) { x.Name, x.Kind = "", kind })
		add(api.ErrKind, func(x *api.SessionStep) { x.Inputs, x.Kind = nil, kind })
	}
	for _, inputs := range [][]string{nil, {}, strings.Split("a,a,a,a,a,a,a", ","), make([]string, 7), make([]string, 1000)} {
		add(api.ErrShape, func(x *api.SessionStep) { x.Inputs = inputs })
		add(api.ErrShape, func(x *api.SessionStep) { x.Inputs, x.By, x.Doubt, x.Text = inputs, "", -1, "" })
	}
	for _, s := range rightSteps() {
		if x := step(s); x.Kind != api.SessionJoin {
			x.Inputs = []string{"a", "a"}
			l = append(l, badStep{x, api.ErrShape})
			x.Inputs = []string{"", "", "", "", "", ""}
			l = append(l, badStep{x, api.ErrShape})
		}
	}
	for _, doubt := range beyond(0, 3) {
		add(api.ErrRange, func(x *api.SessionStep) { x.Doubt = doubt })
		add(api.ErrRange, func(x *api.SessionStep) { x.Doubt, x.Text = doubt, strings.Repeat("x", 201) })
		add(api.ErrName, func(x *api.SessionStep) { x.Doubt, x.By = doubt, "" })
		add(api.ErrName, func(x *api.SessionStep) { x.Doubt, x.Inputs = doubt, []string{""} })
	}
	for _, text := range []string{strings.Repeat("x", 201), "1/1" + strings.Repeat(" ", 198), strings.Repeat("1", 100000)} {
		add(api.ErrLarge, func(x *api.SessionStep) { x.Text = text })
	}
	add(api.ErrSyntax, func(x *api.SessionStep) { x.Text = strings.Repeat("x", 200) })
	for _, r := range rulesWithErrors() {
		l = append(l, badStep{api.SessionStep{Name: "k", Kind: r.kind, Inputs: []string{"a"}, By: "ann", Text: r.text}, r.e})
	}
	return l
}

// badSteps is steps with their error, and the index of the step, for the sources of the examples.
type badSteps struct {
	l     []api.SessionStep
	index int
	e     api.Errno
}

func stepsWithErrors() []badSteps {
	l := []badSteps{
		{named(17), 0, api.ErrLarge}, {make([]api.SessionStep, 17), 0, api.ErrLarge}, {named(1000), 0, api.ErrLarge},
		{steps("+a:gain:b:ann:0:1/1"), 0, api.ErrExists}, {steps("+B:gain:b:ann:0:1/1", "-b:gain:a:ann:0:1/1"), 1, api.ErrExists},
		{steps(part, loud), 1, api.ErrOrder}, {steps(loud, loud), 1, api.ErrOrder}, {steps("+k:gain:a:ann:0:1/1", "+K:gain:a:ann:0:1/1"), 1, api.ErrOrder}, {steps("+k9:gain:a:ann:0:1/1", "+k-:gain:a:ann:0:1/1"), 1, api.ErrOrder}, {append(named(15), step(loud)), 15, api.ErrOrder},
		{steps("+k:gain:c:ann:0:1/1"), 0, api.ErrMissing}, {steps("-k:gain:A:ann:0:1/1"), 0, api.ErrMissing}, {steps(loud, "-part:join:a,loud,b,loud2:ann:0:1,0 0 0"), 1, api.ErrMissing}, {append(named(15), step("+t:gain:s0015:ann:0:1/1")), 15, api.ErrMissing},
		{steps("-k:gain:a:ann:0:1/1", "+l:gain:k:ann:0:1/1"), 1, api.ErrGap}, {steps("+k:join:a,b,l:ann:0:1,0 0 0", "-l:gain:a:ann:0:1/1"), 0, api.ErrGap}, {steps("+k:gain:l:ann:0:1/1", "+l:gain:m:ann:0:1/1", "-m:gain:a:ann:0:1/1"), 1, api.ErrGap},
		{steps("+k:gain:k:ann:0:1/1"), 0, api.ErrClash}, {steps("-k:gain:k:ann:0:1/1"), 0, api.ErrClash}, {steps("+k:gain:l:ann:0:1/1", "+l:gain:k:ann:0:1/1"), 0, api.ErrClash},
		// A step that only needs a circle does not need itself.
		{steps("+j:gain:l:ann:0:1/1", "+k:gain:l:ann:0:1/1", "+l:gain:k:ann:0:1/1"), 1, api.ErrClash}, {steps("-j:gain:a:ann:0:1/1", "-k:gain:l:ann:0:1/1", "-l:join:a,b,m:ann:0:1,0 0 0", "-m:join:l,n:ann:0:1,0 0 0", "-n:gain:a:ann:0:1/1"), 2, api.ErrClash},
		// Of several errors the first one.
		{steps("+a:gain:a:ann:0:x"), 0, api.ErrSyntax}, {steps("+b:gain:c:ann:0:1/1", "+a:gain:x:ann:0:1/1"), 0, api.ErrExists}, {steps("+c:gain:b:ann:0:1/1", "+b:gain:b:ann:0:1/1"), 1, api.ErrExists},
		{steps("+k:gain:c:ann:0:1/1", "+l:gain:k:ann:0:1/0"), 1, api.ErrRange}, {steps("+k:gain:c:ann:0:1/1", "+k:gain:a:ann:0:1/1"), 1, api.ErrOrder},
		{steps("+k:gain:m:ann:0:1/1", "+l:gain:c:ann:0:1/1", "-m:gain:a:ann:0:1/1"), 1, api.ErrMissing}, {steps("+k:gain:k:ann:0:1/1", "+l:gain:m:ann:0:1/1", "-m:gain:a:ann:0:1/1"), 1, api.ErrGap}, {steps("+k:gain:k:ann:0:1/1", "+l:gain:c:ann:0:1/1"), 1, api.ErrMissing},
	}
	for _, x := range stepsAlone() {
		for _, isActive := range []bool{false, true} {
			x.x.Active = isActive
			l = append(l, badSteps{[]api.SessionStep{x.x}, 0, x.e}, badSteps{[]api.SessionStep{step("+A:gain:a:ann:0:1/1"), step("-B:gain:C:ann:0:1/1"), x.x, step("+A:gain:a:ann:0:1/1")}, 2, x.e})
		}
	}
	return l
}

// someText returns rules of a kind, most of which have a result.
func someText(d *rand.Rand, kind, inputs int) string {
	switch kind {
	case api.SessionResample:
		return oneOf(d, []string{"ratio 1 1 2", "ratio 1 1 1", "ratio 3 2 1", "ratio 1 1 20", "ratio 3 1 1"})
	case api.SessionMend:
		return oneOf(d, []string{"median 1 5 2 3 50", "curve 10 2 8 100", "median 2 100 2 4 100", "curve 0 2 8 0"})
	case api.SessionEdit:
		return oneOf(d, []string{"gain 0 2 0 4 0", "gain 0 0 0 4 8", "gain 0 1 1 2 4", "copy 1 1 0 4 1", "gain 0 3 0 0 32"})
	case api.SessionJoin:
		return oneOf(d, []string{"2,0 0 0,1 " + strconv.Itoa(d.IntN(inputs)) + " 0", "3,0 " + strconv.Itoa(d.IntN(inputs)) + " 0", "3,0 1 0", "2,0 0 1"})
	case api.SessionGain:
		return oneOf(d, []string{"1/1", "3/2", "-1/1", "0/1", "1/2", "-7/3", "1000/1"})
	}
	return oneOf(d, []string{"0 0", "0 1", "1 2", "0 2", "2 3", "3 9"})
}

// someStep returns a step whose inputs are some of these names.
func someStep(d *rand.Rand, name string, inputs []string) api.SessionStep {
	x := api.SessionStep{Name: name, Kind: d.IntN(6), By: oneOf(d, []string{"ann", "bob"}), Doubt: d.IntN(4), Active: true}
	count := 1
	if x.Kind == api.SessionJoin {
		count = between(d, 1, 3)
	}
	for range count {
		x.Inputs = append(x.Inputs, oneOf(d, inputs))
	}
	x.Text = someText(d, x.Kind, count)
	return x
}

// someEvent returns an event, which need not be accepted.
func someEvent(d *rand.Rand, l []api.SessionStep, names []string) api.SessionEvent {
	e := api.SessionEvent{Kind: d.IntN(4)}
	name := oneOf(d, names)
	switch e.Kind {
	case api.SessionAdd:
		e.Step = someStep(d, name, append([]string{"a", "b"}, names...))
	case api.SessionChange:
		e.Step = api.SessionStep{Name: name, By: "cleo", Doubt: d.IntN(4), Text: someText(d, d.IntN(6), 1)}
		for _, x := range l {
			if x.Name == name && d.IntN(4) > 0 {
				e.Step.Text = someText(d, x.Kind, len(x.Inputs))
			}
		}
	default:
		e.Step.Name = name
	}
	return e
}

// after returns the steps after some more events that are accepted.
func after(d *rand.Rand, l []api.SessionStep, names []string, count int) []api.SessionStep {
	for range count {
		if next, e := session.Apply(example(), l, someEvent(d, l, names)); e == api.OK {
			l = next
		}
	}
	return l
}

// someSteps returns steps that some events have led to.
func someSteps(d *rand.Rand) []api.SessionStep {
	return after(d, nil, fewNames(), between(d, 0, 60))
}

func fewNames() []string {
	return []string{"j", "k", "k-", "K", "m", "n9"}
}

func mustReplay(t *testing.T, l ...string) []api.SessionStep {
	t.Helper()
	x, i, e := session.Replay(example(), events(l...))
	if i != 0 || e != api.OK {
		t.Fatal(l, i, e)
	}
	return x
}
