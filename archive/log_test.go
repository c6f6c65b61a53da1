package archive_test

import (
	"slices"
	"strings"
	"testing"

	"lacquer/api"
	"lacquer/archive"
)

// P10.2: limits of a log
func TestFullLogs(t *testing.T) {
	for _, count := range []int{0, 1, 59, 60} {
		l := many(count)
		mustBe(t, l)
		want := api.OK
		if count == 60 {
			want = api.ErrLarge
		}
		log, e := archive.Accept(house(), l, entry("lee: note "))
		expect(t, count, shown(e, len(log)), shown(want, (count+1)*btoi(want == api.OK)))
	}
	// ErrLarge comes before the error of the entry.
	expect(t, "full", shown(archive.Accept(house(), many(60), entry("zoe: sing"))), shown([]string{}, api.ErrLarge))
	expect(t, "almost full", shown(archive.Accept(house(), many(59), entry("zoe: sing"))), shown([]string{}, api.ErrMissing))
}

func btoi(b bool) int {
	if b {
		return 1
	}
	return 0
}

// P10.2, example 1
func TestStateOf(t *testing.T) {
	expect(t, "empty", shown(archive.StateOf(house(), nil)), shown(api.ArchiveState{}, api.OK))
	s := stateOf(t, example("lee: hear p loud", "tea: day 3", "kim: embargo d 4", "kim: lend d radio 5"))
	expect(t, "example", shown(s), shown(api.ArchiveState{
		Day: 3,
		Carriers: []api.ArchiveCarrier{{
			Carrier: api.TransferCarrier{Name: "d", Kind: api.TransferDisc, Sides: 1, Speed: api.Frac{Num: 78, Den: 1}}, Embargo: 4, To: "radio", Until: 5,
			Blocks: []api.TransferBlock{{Samples: [8]int{1, 2, 3, 4, 5, 6, 7, 8}, Sum: 186}},
		}},
		Projects: []api.ArchiveProject{{
			Name: "p", Sources: []api.SessionSource{{Name: "d", Signal: []int{1, 2, 3, 4, 5, 6, 7, 8}}},
			Steps: []api.SessionStep{{Name: "loud", Kind: api.SessionGain, Inputs: []string{"d"}, Text: "2/1", By: "ray", Active: true}},
		}},
		Hearings: []api.ArchiveHearing{{Project: "p", Step: "loud", By: "lee", Sum: s.Hearings[0].Sum}},
	}))
}

// P10.9
func TestBeginnings(t *testing.T) {
	d := dice(4)
	for range 20 {
		l := someLog(t, d, 100)
		var m model
		for i := range l {
			expect(t, l[:i], shown(archive.CheckLog(house(), l[:i])), shown(0, api.OK))
			expect(t, l[:i], shown(archive.StateOf(house(), l[:i])), shown(m.ArchiveState, api.OK))
			next, e := m.enter(house(), l[i])
			if e != api.OK {
				t.Fatal(l[:i], l[i], e)
			}
			m = next
		}
		// An entry that has an error keeps its index, whatever comes after it.
		i := d.IntN(len(l) + 1)
		wrong := slices.Insert(slices.Clone(l), i, entry("zoe: note "))
		if len(wrong) <= 60 {
			expect(t, wrong, shown(archive.CheckLog(house(), wrong)), shown(i, api.ErrMissing))
		}
	}
}

// merged is the definition of merging, with Accept.
func merged(a, b []api.ArchiveEntry) ([]api.ArchiveEntry, []int) {
	first := 0
	for first < len(b) && first < len(a) && a[first] == b[first] {
		first++
	}
	var refused []int
	for i, x := range b {
		if i < first {
			continue
		}
		if next, e := archive.Accept(house(), a, x); e == api.OK {
			a = next
		} else {
			refused = append(refused, i)
		}
	}
	return a, refused
}

// P10.3
func TestMerged(t *testing.T) {
	l := example()
	for _, v := range []struct {
		a, b, want []api.ArchiveEntry
		refused    []int
	}{
		{nil, nil, nil, nil}, {l, nil, l, nil}, {nil, l, l, nil}, {l, l, l, nil}, {l[:2], l, l, nil}, {l, l[:2], l, nil}, {l, l[:3], l, nil}, {l[:1], example("lee: note x"), example("lee: note x"), nil},
		{example("lee: note x"), example("lee: note y", "lee: note z"), example("lee: note x", "lee: note y", "lee: note z"), nil},
		{example("lee: note x"), example("tea: note x"), example("lee: note x", "tea: note x"), nil},
		// From the first entry that differs on all entries are tried, also those that the other log has.
		{example("lee: note x", "lee: note z"), example("lee: note y", "lee: note z"), example("lee: note x", "lee: note z", "lee: note y", "lee: note z"), nil},
		{entries("lee: note x"), l, append(entries("lee: note x"), l...), nil},
		{l, entries("lee: note x"), example("lee: note x"), nil},
		// A block that is repeated is accepted once more.
		{l, append(entries("lee: note x"), l...), example("lee: note x", "tea: block d 0 0 1 2 3 4 5 6 7 8 186"), []int{1, 3, 4}},
		{example("tea: day 9"), example("tea: day 5", "lee: hear p loud", "tea: day 8", "tea: day 12"), example("tea: day 9", "lee: hear p loud", "tea: day 12"), []int{4, 6}},
		{example("kim: embargo d 9"), example("lee: hear p loud", "tea: day 10", "lee: hear p loud"), example("kim: embargo d 9", "tea: day 10", "lee: hear p loud"), []int{4}},
		{example("ray: step p undo loud"), example("ray: step p undo loud", "ray: step p redo loud")[:5], example("ray: step p undo loud"), nil},
		{example("ray: step p undo loud"), example("kim: step p undo loud", "ray: step p redo loud"), example("ray: step p undo loud", "ray: step p redo loud"), []int{4}},
	} {
		expect(t, v, shown(archive.Merged(house(), v.a, v.b)), shown(v.want, v.refused, api.OK))
	}
}

// P10.3: a merged log has no more entries than a log may have.
func TestMergedUpToTheLimit(t *testing.T) {
	a, b := many(58), []api.ArchiveEntry{}
	for range 5 {
		b = append(b, entry("tea: note "))
	}
	want := append(slices.Clone(a), b[:2]...)
	expect(t, "full", shown(archive.Merged(house(), a, b)), shown(want, []int{2, 3, 4}, api.OK))
	expect(t, "very full", shown(archive.Merged(house(), many(60), b)), shown(many(60), []int{0, 1, 2, 3, 4}, api.OK))
	expect(t, "itself", shown(archive.Merged(house(), many(60), many(60))), shown(many(60), []int{}, api.OK))
	expect(t, "longer", shown(archive.Merged(house(), many(1), many(60))), shown(many(60), []int{}, api.OK))
}

// P10.3, P10.13
func TestCopiesThatMeet(t *testing.T) {
	d := dice(5)
	for range 25 {
		base := someLog(t, d, 60)
		end := d.IntN(len(base) + 1)
		expect(t, base, shown(archive.Merged(house(), base, base[:end])), shown(base, []int{}, api.OK))
		expect(t, base, shown(archive.Merged(house(), base[:end], base)), shown(base, []int{}, api.OK))
		expect(t, base, shown(archive.Merged(house(), base, base)), shown(base, []int{}, api.OK))
		branches := [2][]api.ArchiveEntry{slices.Clone(base[:end]), slices.Clone(base[:end])}
		for i := range branches {
			m := modelOf(t, branches[i])
			for range 30 {
				x := someEntry(d, m)
				if next, e := m.enter(house(), x); e == api.OK && len(branches[i]) < 60 {
					m, branches[i] = next, append(branches[i], x)
				}
			}
		}
		want, refused := merged(branches[0], branches[1])
		expect(t, branches, shown(archive.Merged(house(), branches[0], branches[1])), shown(want, refused, api.OK))
		mustBe(t, want)
	}
}

// P10.3
func TestUpTo(t *testing.T) {
	l := example("tea: day 5", "lee: note day 9", "tea: day 5", "kim: day 7", "tea: day 7", "lee: note ", "tea: day 100000", "lee: note ")
	for day, want := range map[int]int{0: 4, 4: 4, 5: 7, 6: 7, 7: 10, 8: 10, 99999: 10, 100000: 12} {
		expect(t, day, shown(archive.UpTo(house(), l, day)), shown(l[:want], api.OK))
	}
	for _, day := range beyond(0, 100000) {
		expect(t, day, shown(archive.UpTo(house(), l, day)), shown([]string{}, api.ErrRange))
		expect(t, day, shown(archive.UpTo(house(), nil, day)), shown([]string{}, api.ErrRange))
	}
	for _, day := range []int{0, 1, 100000} {
		expect(t, day, shown(archive.UpTo(house(), nil, day)), shown([]string{}, api.OK))
		expect(t, day, shown(archive.UpTo(house(), example(), day)), shown(example(), api.OK))
	}
	expect(t, "day 0", shown(archive.UpTo(house(), entries("tea: day 0", "tea: day 1"), 0)), shown(entries("tea: day 0"), api.OK))
}

// P10.3: the day of the entries up to a day is at most this day.
func TestUpToAnyDay(t *testing.T) {
	d := dice(6)
	for range 20 {
		l := someLog(t, d, 80)
		for day := range stateOf(t, l).Day + 2 {
			part, e := archive.UpTo(house(), l, day)
			expect(t, l, shown(part, e), shown(l[:len(part)], api.OK))
			if stateOf(t, part).Day > day {
				t.Error(part, day)
			}
			if len(part) < len(l) && (!strings.HasPrefix(l[len(part)].Text, "day ") || stateOf(t, l[:len(part)+1]).Day <= day) {
				t.Error("too few:", l, day, len(part))
			}
		}
	}
}
