package archive_test

import (
	"slices"
	"testing"

	"lacquer/api"
	"lacquer/archive"
)

// P10.8
func TestDesk(t *testing.T) {
	d := dice(11)
	for range 10 {
		desk, e := archive.New(house())
		if e != api.OK || desk == nil {
			t.Fatal(e)
		}
		var l []api.ArchiveEntry
		m := modelOf(t, nil)
		for range 150 {
			if d.IntN(10) == 0 {
				var want api.ArchiveEntry
				e := api.ErrNone
				if len(l) > 0 {
					want, e = l[len(l)-1], api.OK
					l = l[:len(l)-1]
				}
				expect(t, l, shown(desk.Undo()), shown(want, e))
				m = modelOf(t, l)
			}
			x := someEntry(d, m)
			next, want := archive.Accept(house(), l, x)
			expect(t, x, shown(desk.Enter(x.By, x.Text)), shown(want))
			if want == api.OK {
				l, m = next, modelOf(t, next)
			}
			expect(t, x, shown(desk.Log()), shown(l))
			text := oneOf(d, []string{"day", "carriers", "projects", "embargoed", "overdue", "count", "steps p", "score p", "sum p loud", "sum p a", "sing"})
			expect(t, text, shown(desk.Ask(text)), shown(archive.Ask(house(), l, text)))
			expect(t, x, shown(desk.Journal()), shown(archive.Journal(house(), l)))
		}
		for range l {
			if _, e := desk.Undo(); e != api.OK {
				t.Error(e)
			}
		}
		expect(t, "empty", shown(desk.Undo()), shown(api.ArchiveEntry{}, api.ErrNone))
		expect(t, "empty", shown(desk.Log()), shown([]string{}))
		expect(t, "empty", shown(desk.Journal()), shown("", api.OK))
		expect(t, "empty", shown(desk.Ask("count")), shown("0", api.OK))
	}
}

// P10.8: errors change nothing.
func TestErrorsOfDesks(t *testing.T) {
	desk, _ := archive.New(house())
	for _, x := range example() {
		if e := desk.Enter(x.By, x.Text); e != api.OK {
			t.Fatal(x, e)
		}
	}
	for _, v := range []outcome{{"zoe: note ", api.ErrMissing}, {"lee: day 3", api.ErrAllowed}, {"kim: back d", api.ErrState}, {"kim: lend d radio x", api.ErrForm}, {"kim: deliver p x radio", api.ErrMissing}} {
		x := entry(v.entry)
		expect(t, v, shown(desk.Enter(x.By, x.Text)), shown(v.e))
	}
	expect(t, "sing", shown(desk.Ask("sing")), shown("", api.ErrSyntax))
	expect(t, "log", shown(desk.Log()), shown(example()))
	for _, x := range many(56) {
		expect(t, x, shown(desk.Enter(x.By, x.Text)), shown(api.OK))
	}
	expect(t, "full", shown(desk.Enter("zoe", "sing")), shown(api.ErrLarge))
	expect(t, "full", shown(len(desk.Log())), shown(60))
}

// P10.8, R5
func TestNilDesks(t *testing.T) {
	var none *archive.Desk
	for _, x := range entries("kim: note ", "zoe: sing", ": ") {
		expect(t, x, shown(none.Enter(x.By, x.Text)), shown(api.ErrNil))
	}
	expect(t, "undo", shown(none.Undo()), shown(api.ArchiveEntry{}, api.ErrNil))
	expect(t, "log", shown(none.Log()), shown([]string{}))
	for _, text := range []string{"day", "sing", ""} {
		expect(t, text, shown(none.Ask(text)), shown("", api.ErrNil))
	}
	expect(t, "journal", shown(none.Journal()), shown("", api.ErrNil))
	// A desk that nobody made has no people.
	var blank archive.Desk
	expect(t, "blank", shown(blank.Enter("kim", "note ")), shown(api.ErrShape))
	expect(t, "blank", shown(blank.Ask("day")), shown("", api.ErrShape))
	expect(t, "blank", shown(blank.Journal()), shown("", api.ErrShape))
	expect(t, "blank", shown(blank.Undo()), shown(api.ArchiveEntry{}, api.ErrNone))
	expect(t, "blank", shown(blank.Log()), shown([]string{}))
}

// R3, R4: a desk shares memory with nobody.
func TestDesksAreNotShared(t *testing.T) {
	h := house()
	desk, _ := archive.New(h)
	other, _ := archive.New(h)
	slices.Reverse(h.People)
	h.People[0].Name, h.People[3].Role = "zoe", 0
	for _, x := range example() {
		expect(t, x, shown(desk.Enter(x.By, x.Text)), shown(api.OK))
	}
	expect(t, "other", shown(other.Log()), shown([]string{}))
	expect(t, "other", shown(other.Enter("kim", "carrier x disc 1 78/1")), shown(api.OK))
	spoilList(entry("zoe: sing"))(desk.Log())
	expect(t, "log", shown(desk.Log()), shown(example()))
	before := desk.Log()
	if x, e := desk.Undo(); e != api.OK || x != example()[3] {
		t.Error(x, e)
	}
	twin := *desk
	expect(t, "next", shown(desk.Enter("lee", "note x")), shown(api.OK))
	expect(t, "next", shown(twin.Enter("lee", "note y")), shown(api.OK))
	expect(t, "before", shown(before), shown(example()))
	expect(t, "desk", shown(desk.Log()), shown(append(example()[:3], entry("lee: note x"))))
	expect(t, "twin", shown(twin.Log()), shown(append(example()[:3], entry("lee: note y"))))
}
