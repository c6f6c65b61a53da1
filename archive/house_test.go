package archive_test

import (
	"testing"

	"lacquer/api"
	"lacquer/archive"
)

// P10.1
func TestCheckHouse(t *testing.T) {
	full := people()
	for _, name := range append(rightNames(), "kim", "Kim", "KIM") {
		full.People = append(full.People, person(name, 0))
	}
	for role := range 4 {
		full.People[len(full.People)-1].Role = 3
		full.People[0].Role = role
		expect(t, full, shown(archive.CheckHouse(full)), shown(0, api.OK))
	}
	for _, h := range []api.ArchiveHouse{house(), people(person("kim", api.ArchiveKeeper)), people(person("a", 0), person("b", 3), person("c", 3)), people(person("a", 1), person("b", 2), person("c", 3))} {
		expect(t, h, shown(archive.CheckHouse(h)), shown(0, api.OK))
	}
	for _, v := range housesWithErrors() {
		expect(t, v, shown(archive.CheckHouse(v.h)), shown(v.index, v.e))
	}
}

// P10.2 to P10.8: the errors of a house come before all others.
func TestErrorsOfHouses(t *testing.T) {
	var none []api.ArchiveEntry
	for _, v := range housesWithErrors() {
		for _, l := range [][]api.ArchiveEntry{nil, example(), many(61), make([]api.ArchiveEntry, 2)} {
			expect(t, v, shown(archive.CheckLog(v.h, l)), shown(0, v.e))
			expect(t, v, shown(archive.StateOf(v.h, l)), shown(api.ArchiveState{}, v.e))
			expect(t, v, shown(archive.Accept(v.h, l, entry("zoe: note "))), shown(none, v.e))
			expect(t, v, shown(archive.Merged(v.h, l, many(61))), shown(none, []int{}, v.e))
			expect(t, v, shown(archive.UpTo(v.h, l, -1)), shown(none, v.e))
			expect(t, v, shown(archive.Embargoed(v.h, l)), shown([]string{}, v.e))
			expect(t, v, shown(archive.Overdue(v.h, l)), shown([]string{}, v.e))
			expect(t, v, shown(archive.SourcesOf(v.h, l, result("x", "y"))), shown([]string{}, v.e))
			expect(t, v, shown(archive.Rendered(v.h, l, result("x", "y"))), shown([]int{}, v.e))
			expect(t, v, shown(archive.HeardAgain(v.h, l, -1)), shown([]int{}, v.e))
			expect(t, v, shown(archive.Journal(v.h, l)), shown("", v.e))
			expect(t, v, shown(archive.Report(v.h, l)), shown("", v.e))
			expect(t, v, shown(archive.Ask(v.h, l, "")), shown("", v.e))
		}
		expect(t, v, shown(archive.Recover(v.h, "x\n")), shown(none, 0, v.e))
		d, e := archive.New(v.h)
		expect(t, v, shown(d == nil, e), shown(true, v.e))
	}
}

// P10.2 to P10.7: the errors of a log come before those of other arguments.
func TestErrorsOfLogs(t *testing.T) {
	var none []api.ArchiveEntry
	for _, v := range logsWithErrors() {
		expect(t, v, shown(archive.CheckLog(house(), v.l)), shown(v.index, v.e))
		expect(t, v, shown(archive.StateOf(house(), v.l)), shown(api.ArchiveState{}, v.e))
		expect(t, v, shown(archive.Accept(house(), v.l, entry("zoe: note "))), shown(none, v.e))
		expect(t, v, shown(archive.Merged(house(), v.l, entries("ray: sing"))), shown(none, []int{}, v.e))
		expect(t, v, shown(archive.Merged(house(), example(), v.l)), shown(none, []int{}, v.e))
		expect(t, v, shown(archive.UpTo(house(), v.l, -1)), shown(none, v.e))
		expect(t, v, shown(archive.Embargoed(house(), v.l)), shown([]string{}, v.e))
		expect(t, v, shown(archive.Overdue(house(), v.l)), shown([]string{}, v.e))
		expect(t, v, shown(archive.SourcesOf(house(), v.l, result("x", "y"))), shown([]string{}, v.e))
		expect(t, v, shown(archive.Rendered(house(), v.l, result("x", "y"))), shown([]int{}, v.e))
		expect(t, v, shown(archive.HeardAgain(house(), v.l, -1)), shown([]int{}, v.e))
		expect(t, v, shown(archive.Journal(house(), v.l)), shown("", v.e))
		expect(t, v, shown(archive.Report(house(), v.l)), shown("", v.e))
		expect(t, v, shown(archive.Ask(house(), v.l, "")), shown("", v.e))
	}
}
