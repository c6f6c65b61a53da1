package archive_test

import (
	"slices"
	"strings"
	"testing"

	"lacquer/api"
	"lacquer/archive"
)

// P10.2
func TestProject(t *testing.T) {
	l := entries("kim: carrier d disc 1 78/1", "kim: carrier c tape 1 1/1", "kim: carrier E tape 1 1/1", "kim: carrier none tape 1 1/1", "tea: block d "+block(0, 1), "tea: block c "+block(7, 2), "tea: block E "+block(9, 3))
	expectEntries(t, l, []outcome{
		{"ray: project p d", api.OK}, {"ray: project d d", api.OK}, {"ray: project p d,c,E", api.OK}, {"ray: project p E,c", api.OK},
		{"ray: project p x", api.ErrMissing}, {"ray: project p D", api.ErrMissing}, {"ray: project p d,", api.ErrMissing}, {"ray: project p ,d", api.ErrMissing}, {"ray: project p d,,c", api.ErrMissing}, {"ray: project p ,", api.ErrMissing}, {"ray: project p d;c", api.ErrMissing},
		{"ray: project p d,d", api.ErrDouble}, {"ray: project p d,c,d", api.ErrDouble}, {"ray: project p c,d,d", api.ErrDouble}, {"ray: project p none", api.ErrNone}, {"ray: project p d,none", api.ErrNone}, {"ray: project p none,d", api.ErrNone},
		// Of several errors the first one.
		{"ray: project 7 x", api.ErrName}, {"ray: project p none,x", api.ErrNone}, {"ray: project p x,none", api.ErrMissing}, {"ray: project p d,d,x", api.ErrDouble}, {"ray: project p d,none,d", api.ErrNone}, {"ray: project p none,none", api.ErrNone}, {"ray: project p x,x", api.ErrMissing},
	})
	for _, name := range rightNames() {
		expectEntries(t, l, []outcome{{"ray: project " + name + " d", api.OK}})
	}
	for _, name := range wrongNames() {
		if isWord(name) {
			expectEntries(t, l, []outcome{{"ray: project " + name + " d", api.ErrName}, {"ray: project " + name + " x", api.ErrName}})
		}
	}
	four := append(slices.Clone(l), entries("ray: project p E,d,c", "ray: project q d", "ray: project r c,d")...)
	expectEntries(t, four, []outcome{{"ray: project s d", api.OK}, {"ray: project P d", api.OK}, {"ray: project p d", api.ErrExists}, {"ray: project r x", api.ErrExists}})
	four = append(four, entry("kim: project s E,c"))
	expectEntries(t, four, []outcome{{"ray: project t d", api.ErrFull}, {"ray: project t x", api.ErrFull}, {"ray: project p d", api.ErrExists}, {"ray: project s d", api.ErrExists}, {"ray: project 7 d", api.ErrName}})
	signal := func(n int) []int { return []int{n, 0, 0, 0, 0, 0, 0, 0} }
	d, c, e := api.SessionSource{Name: "d", Signal: signal(1)}, api.SessionSource{Name: "c", Signal: signal(2)}, api.SessionSource{Name: "E", Signal: signal(3)}
	expect(t, "projects", shown(stateOf(t, four).Projects), shown([]api.ArchiveProject{
		{Name: "p", Sources: []api.SessionSource{e, c, d}}, {Name: "q", Sources: []api.SessionSource{d}}, {Name: "r", Sources: []api.SessionSource{c, d}}, {Name: "s", Sources: []api.SessionSource{e, c}},
	}))
}

// P10.2: as many sources as there may be carriers
func TestProjectOfAllCarriers(t *testing.T) {
	var l []api.ArchiveEntry
	names := strings.Split("f,e,d,c,b,a", ",")
	for i, name := range names {
		l = append(l, entry("kim: carrier "+name+" disc 1 78/1"), entry("tea: block "+name+" "+block(i, i)))
	}
	l = append(l, entry("ray: project p "+strings.Join(names, ",")))
	for i, s := range stateOf(t, l).Projects[0].Sources {
		expect(t, i, shown(s), shown(api.SessionSource{Name: names[5-i], Signal: []int{5 - i, 0, 0, 0, 0, 0, 0, 0}}))
	}
	expectEntries(t, l, []outcome{{"ray: project q f,e,d,c,b,a,a", api.ErrDouble}, {"ray: project q f,e,d,c,b,a,x", api.ErrMissing}})
}

// Edge case: a project keeps the samples that its carriers had when it was made.
func TestLaterBlocks(t *testing.T) {
	l := example()
	before := stateOf(t, l)
	for _, more := range [][]string{{"tea: block d " + block(1, 9)}, {"tea: block d " + block(0, 9)}, {"kim: embargo d 9", "kim: lend d radio 7", "kim: back d", "tea: block d " + block(3, 9)}} {
		after := stateOf(t, example(more...))
		expect(t, more, shown(after.Projects), shown(before.Projects))
		expect(t, more, shown(len(after.Carriers[0].Blocks)), shown(2))
	}
	later := stateOf(t, example("tea: block d "+block(1, 9), "ray: project q d"))
	expect(t, "later", shown(later.Projects[1].Sources[0].Signal), shown([]int{1, 2, 3, 4, 5, 6, 7, 8, 9, 0, 0, 0, 0, 0, 0, 0}))
}

// P10.2, P10.14
func TestStep(t *testing.T) {
	l := example("ray: step p add +soft:gain:loud:ray:3:1/2", "ray: step p undo soft", "ray: project q d")
	expectEntries(t, l, []outcome{
		{"ray: step p add +k:gain:d:ray:0:1/1", api.OK}, {"kim: step p add +k:gain:d:kim:0:1/1", api.OK}, {"ray: step p change loud:ray:1:1/1", api.OK}, {"kim: step p change loud:kim:0:1/1", api.OK},
		// Who undoes something need not have decided it.
		{"kim: step p undo loud", api.OK}, {"kim: step p redo soft", api.OK}, {"ray: step p redo soft", api.OK},
		{"ray: step x add +k:gain:d:ray:0:1/1", api.ErrMissing}, {"ray: step q change loud:ray:0:1/1", api.ErrMissing}, {"ray: step q undo loud", api.ErrMissing}, {"ray: step P undo loud", api.ErrMissing},
		{"ray: step p sing", api.ErrSyntax}, {"ray: step p ", api.ErrSyntax}, {"ray: step p add k:gain:d:ray:0:1/1", api.ErrSyntax}, {"ray: step p add +7:gain:d:ray:0:1/1", api.ErrName}, {"ray: step p add -k:gain:d:ray:0:1/1", api.ErrForm}, {"ray: step p change loud:ray:4:1/1", api.ErrRange}, {"ray: step p undo 7", api.ErrName},
		{"ray: step p add +k:gain:d:kim:0:1/1", api.ErrClash}, {"kim: step p add +k:gain:d:ray:0:1/1", api.ErrClash}, {"kim: step p change loud:ray:0:1/1", api.ErrClash}, {"ray: step p change loud:Ray:0:1/1", api.ErrClash}, {"ray: step p add +k:gain:d:zoe:0:1/1", api.ErrClash},
		{"ray: step p add +d:gain:d:ray:0:1/1", api.ErrExists}, {"ray: step p add +loud:gain:d:ray:0:1/1", api.ErrExists}, {"ray: step p add +k:gain:x:ray:0:1/1", api.ErrMissing}, {"ray: step p add +k:gain:soft:ray:0:1/1", api.ErrMissing}, {"ray: step p change soft:ray:0:1/1", api.ErrState}, {"ray: step p undo soft", api.ErrState}, {"ray: step p redo loud", api.ErrState}, {"ray: step p change loud:ray:0:x", api.ErrSyntax},
		// Of several errors the first one.
		{"ray: step x sing", api.ErrMissing}, {"ray: step x add +k:gain:d:kim:0:1/1", api.ErrMissing}, {"ray: step p add +7:gain:d:kim:0:1/1", api.ErrName}, {"ray: step p add +loud:gain:d:kim:0:1/1", api.ErrClash}, {"ray: step p change soft:kim:0:1/1", api.ErrClash}, {"ray: step p change x:kim:0:1/1", api.ErrClash},
	})
	expectEntries(t, append(l, entry("ray: step p redo soft")), []outcome{{"ray: step p undo loud", api.ErrBusy}})
	want := []api.SessionStep{
		{Name: "loud", Kind: api.SessionGain, Inputs: []string{"d"}, Text: "3/1", By: "kim", Doubt: 2, Active: true},
		{Name: "soft", Kind: api.SessionGain, Inputs: []string{"loud"}, Text: "1/2", By: "ray", Doubt: 3},
	}
	s := stateOf(t, append(l, entry("kim: step p change loud:kim:2:3/1")))
	expect(t, "steps", shown(s.Projects[0].Steps), shown(want))
	expect(t, "other project", shown(s.Projects[1].Steps), shown([]int{}))
	var full []api.ArchiveEntry
	for _, c := range "abcefghijklmnop" {
		full = append(full, entry("ray: step p add +"+string(c)+":gain:d:ray:0:1/1"))
	}
	full = append(example(), full...)
	expectEntries(t, full, []outcome{{"ray: step p add +z:gain:d:ray:0:1/1", api.ErrFull}, {"ray: step p add +z:gain:x:ray:0:1/1", api.ErrFull}, {"ray: step p add +a:gain:d:ray:0:1/1", api.ErrExists}})
}

// P10.2, example 7
func TestTest(t *testing.T) {
	l := example("ray: project q d")
	expectEntries(t, l, []outcome{
		{"ray: test p 0", api.OK}, {"ray: test p 1", api.OK}, {"ray: test q 0101010101", api.OK}, {"ray: test p 01010101010", api.ErrLarge}, {"ray: test p " + strings.Repeat("1", 290), api.ErrLarge},
		{"ray: test p ", api.ErrSyntax}, {"ray: test p 2", api.ErrSyntax}, {"ray: test p 012", api.ErrSyntax}, {"ray: test p 0 1", api.ErrSyntax}, {"ray: test p 0,1", api.ErrSyntax}, {"ray: test p 01 ", api.ErrSyntax}, {"ray: test p  01", api.ErrSyntax}, {"ray: test p -1", api.ErrSyntax}, {"ray: test p x", api.ErrSyntax}, {"ray: test p /", api.ErrSyntax}, {"ray: test p 01010101012", api.ErrSyntax},
		{"ray: test x 0", api.ErrMissing}, {"ray: test x 2", api.ErrMissing}, {"ray: test d 0", api.ErrMissing}, {"ray: test Q 0", api.ErrMissing},
		{"lee: listen p play 0", api.ErrNone}, {"lee: listen p sing", api.ErrNone}, {"lee: listen x play 0", api.ErrMissing}, {"lee: listen x sing", api.ErrMissing},
	})
	l = append(l, entry("ray: test p 10"))
	expectEntries(t, l, []outcome{
		{"ray: test p 10", api.ErrBusy}, {"ray: test p 0", api.ErrBusy}, {"ray: test p 2", api.ErrSyntax}, {"ray: test p 01010101010", api.ErrLarge}, {"ray: test q 0", api.OK},
		{"lee: listen p play 0", api.OK}, {"lee: listen p play 2", api.OK}, {"lee: listen p play 3", api.ErrRange}, {"lee: listen p play", api.ErrSyntax}, {"lee: listen p sing", api.ErrSyntax}, {"lee: listen p stop", api.ErrState}, {"lee: listen p answer 0", api.ErrGap}, {"lee: listen p answer 2", api.ErrRange}, {"lee: listen p repeat", api.ErrNone}, {"lee: listen q play 0", api.ErrNone},
	})
	expect(t, "beginning", shown(stateOf(t, l).Projects[0].Test, stateOf(t, l).Projects[0].Listen), shown(api.ListenRules{Hidden: []int{1, 0}}, api.ListenState{Playing: -1}))
	expect(t, "no test", shown(stateOf(t, l).Projects[1].Test, stateOf(t, l).Projects[1].Listen), shown(api.ListenRules{}, api.ListenState{}))
	trial := entries("lee: listen p play 0", "lee: listen p play 1", "lee: listen p play 2", "lee: listen p answer 1")
	half := append(slices.Clone(l), trial...)
	expectEntries(t, half, []outcome{{"ray: test p 0", api.ErrBusy}, {"lee: listen p answer 1", api.ErrGap}, {"lee: listen p repeat", api.OK}})
	expect(t, "one answer", shown(stateOf(t, half).Projects[0].Listen), shown(api.ListenState{Playing: -1, Answers: []int{1}}))
	expect(t, "play", shown(stateOf(t, half[:len(half)-1]).Projects[0].Listen), shown(api.ListenState{Playing: 2, Heard: [3]bool{true, true, true}}))
	all := append(slices.Clone(half), trial...)
	// A test with all trials answered may be followed by another one.
	expectEntries(t, all, []outcome{{"ray: test p 0", api.OK}, {"ray: test p 2", api.ErrSyntax}, {"lee: listen p play 0", api.ErrState}, {"lee: listen p repeat", api.OK}})
	expectEntries(t, append(slices.Clone(all), entry("lee: listen p repeat")), []outcome{{"ray: test p 0", api.ErrBusy}})
	next := append(slices.Clone(all), entry("ray: test p 011"))
	expect(t, "another one", shown(stateOf(t, next).Projects[0].Test, stateOf(t, next).Projects[0].Listen), shown(api.ListenRules{Hidden: []int{0, 1, 1}}, api.ListenState{Playing: -1}))
	expectEntries(t, next, []outcome{{"lee: listen p repeat", api.ErrNone}, {"ray: test p 0", api.ErrBusy}})
}

// P10.14: in a log that was accepted everybody was permitted to do what they did, and each decision bears the name of who made it.
func TestDecisions(t *testing.T) {
	d := dice(2)
	decisions := 0
	for range 30 {
		l := someLog(t, d, 120)
		deciders := map[string]map[string]bool{}
		for _, x := range l {
			role := map[string]int{"lee": 0, "tea": 1, "ray": 2, "kim": 3}[x.By]
			word, text, _ := strings.Cut(x.Text, " ")
			if role < shapes[word].role {
				t.Error(x)
			}
			if project, event, _ := strings.Cut(text, " "); word == "step" {
				if deciders[project] == nil {
					deciders[project] = map[string]bool{}
				}
				deciders[project][x.By] = true
				decisions++
				if kind, _, _ := strings.Cut(event, " "); (kind == "add" || kind == "change") && !strings.Contains(event, ":"+x.By+":") {
					t.Error(x)
				}
			}
		}
		s, e := archive.StateOf(house(), l)
		if e != api.OK {
			t.Error(l, e)
		}
		for _, p := range s.Projects {
			for _, step := range p.Steps {
				if !deciders[p.Name][step.By] {
					t.Error(p.Name, step)
				}
			}
		}
	}
	if decisions < 50 {
		t.Error("few decisions:", decisions)
	}
}
