package archive_test

import (
	"fmt"
	"slices"
	"testing"

	"lacquer/api"
	"lacquer/archive"
)

// P10.5
func TestSourcesOf(t *testing.T) {
	l := rich("ray: step p add +two:join:c,d,d:ray:0:8,0 0 0", "ray: step p add +more:gain:two:ray:0:1/1", "kim: embargo c 9")
	for _, v := range []struct {
		x    api.ArchiveResult
		want []string
		e    api.Errno
	}{
		{result("p", "loud"), []string{"d"}, api.OK}, {result("p", "soft"), []string{"c"}, api.OK}, {result("p", "both"), []string{"c", "d"}, api.OK}, {result("p", "two"), []string{"c", "d"}, api.OK}, {result("p", "more"), []string{"c", "d"}, api.OK}, {result("q", "a"), []string{"d"}, api.OK},
		{result("p", "none"), nil, api.ErrState}, {result("p", "x"), nil, api.ErrMissing}, {result("p", "d"), nil, api.ErrMissing}, {result("p", ""), nil, api.ErrMissing}, {result("p", "a"), nil, api.ErrMissing}, {result("q", "loud"), nil, api.ErrMissing},
		{result("x", "loud"), nil, api.ErrMissing}, {result("", ""), nil, api.ErrMissing}, {result("x", "none"), nil, api.ErrMissing}, {result("d", "loud"), nil, api.ErrMissing},
	} {
		expect(t, v, shown(archive.SourcesOf(house(), l, v.x)), shown(v.want, v.e))
	}
}

// P10.5, example 1
func TestRendered(t *testing.T) {
	l := rich("ray: step p add +big:gain:d:ray:0:1000/1", "tea: day 5")
	zeros := func(count int, some ...int) []int {
		x := make([]int, count)
		copy(x, some)
		return x
	}
	for _, v := range []struct {
		x    api.ArchiveResult
		want []int
		e    api.Errno
	}{
		{result("p", "loud"), zeros(16, 2, 4, 6, 0, 0, 0, 0, 0, 8), api.OK}, {result("p", "soft"), zeros(8, 5, -10, 15), api.OK}, {result("p", "both"), zeros(8, 5, -10, 15), api.OK}, {result("q", "a"), zeros(16, -1, -2, -3, 0, 0, 0, 0, 0, -4), api.OK},
		{result("p", "none"), nil, api.ErrState}, {result("p", "x"), nil, api.ErrMissing}, {result("p", "d"), nil, api.ErrMissing}, {result("q", "loud"), nil, api.ErrMissing}, {result("x", "loud"), nil, api.ErrMissing}, {result("x", "none"), nil, api.ErrMissing}, {result("", ""), nil, api.ErrMissing},
	} {
		expect(t, v, shown(archive.Rendered(house(), l, v.x)), shown(v.want, v.e))
		if v.x.Project != "" {
			expectEntries(t, l, []outcome{{"lee: hear " + v.x.Project + " " + v.x.Step, v.e}, {"kim: deliver " + v.x.Project + " " + v.x.Step + " radio", v.e}})
		}
	}
	expect(t, "example", shown(archive.Rendered(house(), example(), result("p", "loud"))), shown([]int{2, 4, 6, 8, 10, 12, 14, 16}, api.OK))
	// The error of the step itself comes last.
	loud := example("ray: step p change loud:ray:0:1000/1", "ray: step p add +cut:cut:loud:ray:0:0 99", "ray: step p add +far:cut:d:ray:0:0 99")
	expect(t, "too far", shown(archive.Rendered(house(), loud, result("p", "far"))), shown([]int{}, api.ErrMissing))
	loudest := entries("kim: carrier d disc 1 78/1", "tea: block d "+block(0, 33), "ray: project p d", "ray: step p add +loud:gain:d:ray:0:1000/1", "ray: step p add +cut:cut:loud:ray:0:0 99")
	for _, step := range []string{"loud", "cut"} {
		expect(t, step, shown(archive.Rendered(house(), loudest, result("p", step))), shown([]int{}, api.ErrBreak))
		expectEntries(t, loudest, []outcome{{"lee: hear p " + step, api.ErrBreak}, {"kim: deliver p " + step + " radio", api.ErrBreak}})
		refused := append(slices.Clone(loudest), entry("kim: embargo d 0"))
		expect(t, step, shown(archive.Rendered(house(), refused, result("p", step))), shown([]int{}, api.ErrRefused))
		expectEntries(t, refused, []outcome{{"lee: hear p " + step, api.ErrRefused}})
	}
}

// P10.2, P10.5, P10.11, example 2
func TestEmbargoes(t *testing.T) {
	l := rich("tea: day 5", "lee: hear p loud", "lee: hear p soft", "kim: deliver p both radio", "lee: hear q a", "kim: embargo d 9")
	for day, isForbidden := range map[int]bool{5: true, 8: true, 9: true, 10: false, 100: false} {
		now := append(slices.Clone(l), entry(fmt.Sprint("tea: day ", day)))
		for hearing, x := range []api.ArchiveResult{result("p", "loud"), result("p", "soft"), result("p", "both"), result("q", "a")} {
			want := api.OK
			if isForbidden && x.Step != "soft" {
				want = api.ErrRefused
			}
			signal, e := archive.Rendered(house(), now, x)
			expect(t, x, shown(e, len(signal) > 0), shown(want, want == api.OK))
			expect(t, x, shown(archive.HeardAgain(house(), now, hearing)), shown(signal, want))
			answer, e := archive.Ask(house(), now, "sum "+x.Project+" "+x.Step)
			expect(t, x, shown(e, answer != ""), shown(want, want == api.OK))
			expectEntries(t, now, []outcome{{"lee: hear " + x.Project + " " + x.Step, want}, {"kim: hear " + x.Project + " " + x.Step, want}, {"kim: deliver " + x.Project + " " + x.Step + " radio", want}, {"kim: deliver " + x.Project + " " + x.Step + " 7", api.ErrName}})
		}
		expectEntries(t, now, []outcome{{"lee: hear p none", api.ErrState}, {"lee: hear p x", api.ErrMissing}})
	}
	// The steps themselves, and the sources' names, are not secret.
	expect(t, "sources", shown(archive.SourcesOf(house(), l, result("p", "loud"))), shown([]string{"d"}, api.OK))
	expectEntries(t, l, []outcome{{"ray: step p change loud:ray:0:1/1", api.OK}, {"ray: project r d", api.OK}})
}

// P10.2
func TestHearings(t *testing.T) {
	l := rich("lee: hear p loud", "tea: day 5", "kim: deliver p soft radio", "ray: step p change soft:ray:0:1/1", "kim: hear p soft", "tea: hear q a")
	sum := func(x ...int) int {
		n, e := archive.SignalSum(x)
		if e != api.OK {
			t.Error(e)
		}
		return n
	}
	want := []api.ArchiveHearing{
		{Project: "p", Step: "loud", By: "lee", Sum: sum(2, 4, 6, 0, 0, 0, 0, 0, 8, 0, 0, 0, 0, 0, 0, 0)},
		{Day: 5, Project: "p", Step: "soft", To: "radio", By: "kim", Sum: sum(5, -10, 15, 0, 0, 0, 0, 0)},
		{Day: 5, Project: "p", Step: "soft", By: "kim", Sum: sum(10, -20, 30, 0, 0, 0, 0, 0)},
		{Day: 5, Project: "q", Step: "a", By: "tea", Sum: sum(-1, -2, -3, 0, 0, 0, 0, 0, -4, 0, 0, 0, 0, 0, 0, 0)},
	}
	expect(t, "hearings", shown(stateOf(t, l).Hearings), shown(want))
	expect(t, "again", shown(archive.HeardAgain(house(), l, 1)), shown([]int{5, -10, 15, 0, 0, 0, 0, 0}, api.OK))
	expect(t, "again", shown(archive.HeardAgain(house(), l, 2)), shown([]int{10, -20, 30, 0, 0, 0, 0, 0}, api.OK))
	for _, index := range append(beyond(0, 3), 5, 100) {
		expect(t, index, shown(archive.HeardAgain(house(), l, index)), shown([]int{}, api.ErrMissing))
	}
	expect(t, "nothing", shown(archive.HeardAgain(house(), nil, 0)), shown([]int{}, api.ErrMissing))
	expectEntries(t, l, []outcome{
		{"kim: deliver p loud radio", api.OK}, {"kim: deliver x loud radio", api.ErrMissing}, {"kim: deliver x loud 7", api.ErrMissing}, {"kim: deliver p x 7", api.ErrName}, {"kim: deliver p none 7", api.ErrName}, {"kim: deliver p x radio", api.ErrMissing}, {"kim: deliver p none radio", api.ErrState},
	})
	for _, name := range rightNames() {
		expectEntries(t, l, []outcome{{"kim: deliver p loud " + name, api.OK}})
	}
	for _, name := range wrongNames() {
		if isWord(name) {
			expectEntries(t, l, []outcome{{"kim: deliver p loud " + name, api.ErrName}})
		}
	}
}

// P10.2: at most 20 hearings, of whichever kind
func TestManyHearings(t *testing.T) {
	l := rich()
	for i := range 20 {
		expectEntries(t, l, []outcome{{"lee: hear p loud", api.OK}, {"kim: deliver p loud radio", api.OK}})
		l = append(l, entry([]string{"lee: hear p loud", "kim: deliver q a radio"}[i%2]))
	}
	expectEntries(t, l, []outcome{
		{"lee: hear p loud", api.ErrFull}, {"kim: deliver p loud radio", api.ErrFull}, {"lee: hear p none", api.ErrState}, {"lee: hear p x", api.ErrMissing}, {"lee: hear x loud", api.ErrMissing}, {"kim: deliver p loud 7", api.ErrName},
	})
	expectEntries(t, append(slices.Clone(l), entry("kim: embargo d 0")), []outcome{{"lee: hear p loud", api.ErrRefused}, {"lee: hear p soft", api.ErrFull}})
	broken := append(slices.Clone(l), entry("ray: step p change soft:ray:0:1000/1"), entry("ray: step p add +louder:gain:soft:ray:0:1000/1"))
	expectEntries(t, broken, []outcome{{"lee: hear p louder", api.ErrBreak}})
}

// P10.10, edge case: a step may be undone after it was heard.
func TestHeardAgain(t *testing.T) {
	l := rich("lee: hear p loud", "lee: hear p both")
	first := [][]int{{2, 4, 6, 0, 0, 0, 0, 0, 8, 0, 0, 0, 0, 0, 0, 0}, {5, -10, 15, 0, 0, 0, 0, 0}}
	for _, more := range [][]string{
		nil, {"ray: step p undo both"}, {"ray: step p undo both", "ray: step p undo loud", "ray: step p undo soft"}, {"ray: step p change soft:ray:0:9/1"}, {"ray: step p change both:ray:0:8,0 1 0"}, {"tea: block d " + block(2, 9), "tea: block c " + block(8, 9)}, {"kim: lend d radio 7", "kim: lend c radio 8", "tea: day 100"}, {"kim: embargo e 100"}, {"kim: embargo d 9", "kim: embargo c 9", "tea: day 10"}, {"kim: embargo d 9", "kim: embargo c 9", "kim: embargo d 0", "kim: embargo c 0", "tea: day 1"},
	} {
		for i, want := range first {
			expect(t, more, shown(archive.HeardAgain(house(), append(slices.Clone(l), entries(more...)...), i)), shown(want, api.OK))
		}
	}
	for _, more := range [][]string{{"kim: embargo d 0"}, {"kim: embargo d 9", "tea: day 9"}, {"ray: step p undo both", "kim: embargo d 9"}, {"ray: step p undo both", "ray: step p undo loud", "kim: embargo d 9"}} {
		for i := range first {
			expect(t, more, shown(archive.HeardAgain(house(), append(slices.Clone(l), entries(more...)...), i)), shown([]int{}, api.ErrRefused))
		}
	}
	secret := append(slices.Clone(l), entry("kim: embargo c 9"))
	expect(t, "first", shown(archive.HeardAgain(house(), secret, 0)), shown(first[0], api.OK))
	expect(t, "second", shown(archive.HeardAgain(house(), secret, 1)), shown([]int{}, api.ErrRefused))
}

// P10.5, P10.10, P10.11
func TestResultsAsTheModelDoes(t *testing.T) {
	d := dice(3)
	refused, heard := 0, 0
	for range 60 {
		l := someLog(t, d, 150)
		m := modelOf(t, l)
		for i, x := range m.Hearings {
			want, e := m.heard[i], api.OK
			if m.refused(m.needs[i]) {
				want, e = nil, api.ErrRefused
				refused++
			} else if sum, _ := archive.SignalSum(want); sum != x.Sum {
				t.Error(l, i)
			} else {
				heard++
			}
			expect(t, l, shown(archive.HeardAgain(house(), l, i)), shown(want, e))
		}
		for _, p := range m.Projects {
			for _, step := range stepNames() {
				x := result(p.Name, step)
				want, e := m.rendered(p, step)
				expect(t, x, shown(archive.Rendered(house(), l, x)), shown(want, e))
				if e == api.OK || e == api.ErrRefused {
					expect(t, x, shown(archive.SourcesOf(house(), l, x)), shown(sourcesOf(p, step), api.OK))
				}
			}
		}
	}
	if refused < 10 || heard < 10 {
		t.Error("few hearings:", refused, heard)
	}
}
