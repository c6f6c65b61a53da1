package archive_test

import (
	"fmt"
	"strings"
	"testing"

	"lacquer/api"
	"lacquer/archive"
)

// unchanged makes a call twice, spoils its first result in between, and expects that neither the arguments nor the second result differ (R3, R4).
func unchanged[T any](t *testing.T, what string, arguments any, call func() (T, api.Errno), spoil func(T)) {
	t.Helper()
	before := shown(arguments)
	first, e := call()
	want := shown(first, e)
	if e != api.OK {
		t.Error(what, e)
	}
	spoil(first)
	expect(t, what, shown(call()), want)
	expect(t, what, shown(arguments), before)
}

// spoilList overwrites a list, and the room behind it, which belongs to it, too.
func spoilList[T any](other T) func([]T) {
	return func(l []T) {
		for i := range l {
			l[i] = other
		}
		_ = append(l, other)
	}
}

// R3, R4
func TestLogsAreNotShared(t *testing.T) {
	h := api.ArchiveHouse{People: append(house().People, person("zoe", 3))}
	h.People = h.People[:4]
	all := rich("lee: hear p loud", "lee: hear p both", "tea: day 5", "kim: lend e radio 5", "tea: day 6", "kim: embargo e 9", "ray: test p 01", "lee: note other")
	l := all[:len(all)-1]
	arguments := []any{h.People[:5], all}
	spoil := spoilList(entry("zoe: sing"))
	unchanged(t, "accept", arguments, func() ([]api.ArchiveEntry, api.Errno) { return archive.Accept(h, l, entry("lee: note x")) }, spoil)
	unchanged(t, "up to", arguments, func() ([]api.ArchiveEntry, api.Errno) { return archive.UpTo(h, l, 5) }, spoil)
	unchanged(t, "up to the end", arguments, func() ([]api.ArchiveEntry, api.Errno) { return archive.UpTo(h, l, 6) }, spoil)
	for _, b := range [][]api.ArchiveEntry{l, l[:3], rich("lee: note 1", "lee: note 2"), nil} {
		unchanged(t, "merged", append(arguments, b), func() ([]api.ArchiveEntry, api.Errno) {
			x, refused, e := archive.Merged(h, l, b)
			spoilList(-1)(refused)
			return x, e
		}, spoil)
		unchanged(t, "merged", append(arguments, b), func() ([]api.ArchiveEntry, api.Errno) {
			x, _, e := archive.Merged(h, l[:2], l)
			return x, e
		}, spoil)
	}
	journal, e := archive.Journal(h, l)
	if e != api.OK {
		t.Fatal(e)
	}
	unchanged(t, "recover", arguments, func() ([]api.ArchiveEntry, api.Errno) {
		x, _, e := archive.Recover(h, journal)
		return x, e
	}, spoil)
	for _, text := range []string{"sum p loud", "steps p", "score p", "overdue"} {
		unchanged(t, text, arguments, func() (string, api.Errno) { return archive.Ask(h, l, text) }, func(string) {})
	}
	unchanged(t, "report", arguments, func() (string, api.Errno) { return archive.Report(h, l) }, func(string) {})
}

// R3, R4
func TestResultsAreNotShared(t *testing.T) {
	all := rich("lee: hear p loud", "lee: hear p both", "tea: day 5", "kim: lend e radio 5", "tea: day 6", "kim: embargo e 9", "ray: test p 01", "lee: note other")
	l := all[:len(all)-1]
	unchanged(t, "embargoed", all, func() ([]string, api.Errno) { return archive.Embargoed(house(), l) }, spoilList("other"))
	unchanged(t, "overdue", all, func() ([]string, api.Errno) { return archive.Overdue(house(), l) }, spoilList("other"))
	unchanged(t, "sources", all, func() ([]string, api.Errno) { return archive.SourcesOf(house(), l, result("p", "both")) }, spoilList("other"))
	unchanged(t, "rendered", all, func() ([]int, api.Errno) { return archive.Rendered(house(), l, result("p", "both")) }, spoilList(-1))
	unchanged(t, "again", all, func() ([]int, api.Errno) { return archive.HeardAgain(house(), l, 1) }, spoilList(-1))
	numbers := []int{1, 2, 3, 4}
	unchanged(t, "sum", numbers, func() (int, api.Errno) { return archive.SignalSum(numbers[:3]) }, func(int) {})
	unchanged(t, "state", all, func() (api.ArchiveState, api.Errno) { return archive.StateOf(house(), l) }, func(s api.ArchiveState) { spoilState(t, s) })
}

// spoilState overwrites all parts of a state, one by one, and expects that no other part changes with them.
func spoilState(t *testing.T, s api.ArchiveState) {
	t.Helper()
	// Each part appends to itself first: what lies behind it must not be another part.
	expectAlone := func(what string, spoil func()) {
		t.Helper()
		before := shown(s)
		spoil()
		expect(t, what, shown(s), before)
	}
	for i := range s.Carriers {
		expectAlone("blocks", func() { _ = append(s.Carriers[i].Blocks, api.TransferBlock{Counter: 7}) })
	}
	for i := range s.Projects {
		p := &s.Projects[i]
		expectAlone("sources", func() { _ = append(p.Sources, api.SessionSource{Name: "other"}) })
		expectAlone("steps", func() { _ = append(p.Steps, api.SessionStep{Name: "other"}) })
		expectAlone("hidden", func() { _ = append(p.Test.Hidden, 7) })
		expectAlone("answers", func() { _ = append(p.Listen.Answers, 7) })
		for j := range p.Sources {
			rest := shown(s.Projects[i+1:], p.Sources[j+1:])
			spoilList(-7)(p.Sources[j].Signal)
			expect(t, "signals share memory", shown(s.Projects[i+1:], p.Sources[j+1:]), rest)
		}
		for j := range p.Steps {
			rest := shown(s.Projects[i+1:], p.Steps[j+1:])
			spoilList("other")(p.Steps[j].Inputs)
			expect(t, "inputs share memory", shown(s.Projects[i+1:], p.Steps[j+1:]), rest)
		}
	}
	for i := range s.Carriers {
		rest := shown(s.Carriers[i+1:])
		spoilList(api.TransferBlock{Counter: 7})(s.Carriers[i].Blocks)
		expect(t, "blocks share memory", shown(s.Carriers[i+1:]), rest)
	}
	spoilList(api.ArchiveHearing{Day: 7})(s.Hearings)
	spoilList(api.ArchiveProject{Name: "other"})(s.Projects)
	spoilList(api.ArchiveCarrier{To: "other"})(s.Carriers)
}

// R5
func TestNilAndEmptyAreEqual(t *testing.T) {
	none := []string{}
	for _, l := range [][]api.ArchiveEntry{nil, {}} {
		expect(t, l, shown(archive.CheckLog(house(), l)), shown(0, api.OK))
		expect(t, l, shown(archive.StateOf(house(), l)), shown(api.ArchiveState{}, api.OK))
		expect(t, l, shown(archive.Accept(house(), l, entry("lee: note "))), shown(entries("lee: note "), api.OK))
		for _, b := range [][]api.ArchiveEntry{nil, {}} {
			expect(t, l, shown(archive.Merged(house(), l, b)), shown(none, none, api.OK))
		}
		expect(t, l, shown(archive.UpTo(house(), l, 0)), shown(none, api.OK))
		expect(t, l, shown(archive.Embargoed(house(), l)), shown(none, api.OK))
		expect(t, l, shown(archive.Overdue(house(), l)), shown(none, api.OK))
		expect(t, l, shown(archive.SourcesOf(house(), l, api.ArchiveResult{})), shown(none, api.ErrMissing))
		expect(t, l, shown(archive.Rendered(house(), l, api.ArchiveResult{})), shown(none, api.ErrMissing))
		expect(t, l, shown(archive.HeardAgain(house(), l, 0)), shown(none, api.ErrMissing))
		expect(t, l, shown(archive.Journal(house(), l)), shown("", api.OK))
		expect(t, l, shown(archive.Report(house(), l)), shown("day 0\nheard 0 0\n", api.OK))
	}
	for _, x := range [][]int{nil, {}} {
		expect(t, x, shown(archive.SignalSum(x)), shown(1, api.OK))
	}
	for _, h := range []api.ArchiveHouse{{}, {People: []api.ArchivePerson{}}} {
		expect(t, h, shown(archive.CheckHouse(h)), shown(0, api.ErrShape))
	}
}

// R2: as much as the limits permit
func TestGreatestArguments(t *testing.T) {
	l := entries("kim: carrier d disc 1 78/1")
	for i := range 10 {
		l = append(l, entry("tea: block d "+block([]int{0, 24, 1, 2, 3, 4, 5, 6, 7, 8}[i], 0, 0, 32767, 32000-i, 31000)))
	}
	l = append(l, entry("ray: project p d"))
	for i := range 16 {
		input := "d"
		if i > 0 {
			input = fmt.Sprint("s", 9+i)
		}
		rules := []string{"mend:" + input + ":ray:0:median 4 2000 2 8 100", "edit:" + input + ":ray:0:gain 0 60 0 4 8", "resample:" + input + ":ray:0:ratio 3 1 1", "join:" + strings.Repeat(input+",", 5) + "d:ray:0:200,0 0 0"}[i%4]
		l = append(l, entry(fmt.Sprint("ray: step p add +s", 10+i, ":", rules)))
	}
	for range 20 {
		l = append(l, entry("lee: hear p s25"))
	}
	l = append(l, many(60-len(l))...)
	mustBe(t, l)
	s := stateOf(t, l)
	expect(t, "state", shown(len(s.Carriers[0].Blocks), len(s.Projects[0].Sources[0].Signal), len(s.Projects[0].Steps), len(s.Hearings)), shown(10, 200, 16, 20))
	signal, e := archive.Rendered(house(), l, result("p", "s25"))
	sum, err := archive.SignalSum(signal)
	expect(t, "sum", shown(sum, e, err), shown(s.Hearings[19].Sum, api.OK, api.OK))
	expect(t, "again", shown(archive.HeardAgain(house(), l, 19)), shown(signal, api.OK))
	expect(t, "merged", shown(archive.Merged(house(), nil, l)), shown(l, []int{}, api.OK))
	journal, e := archive.Journal(house(), l)
	if e != api.OK {
		t.Error(e)
	}
	expect(t, "recovered", shown(archive.Recover(house(), journal)), shown(l, 0, api.OK))
}
