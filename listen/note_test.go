package listen_test

import (
	"math/rand/v2"
	"slices"
	"strings"
	"testing"

	"lacquer/api"
	"lacquer/listen"
)

const maxPosition = 1000000

func note(at, length int) api.ListenNote {
	return api.ListenNote{At: at, Length: length, Text: "hiss"}
}

func cut(at, length int) api.ListenEdit {
	return api.ListenEdit{At: at, Length: length}
}

func insertion(at, length int) api.ListenEdit {
	return api.ListenEdit{Insert: true, At: at, Length: length}
}

func notes(l ...api.ListenNote) []api.ListenNote {
	return l
}

func edits(l ...api.ListenEdit) []api.ListenEdit {
	return l
}

// P9.6, example 7
func TestMoved(t *testing.T) {
	for _, v := range []struct {
		note  api.ListenNote
		edits []api.ListenEdit
		want  []api.ListenNote
	}{
		{note(10, 5), edits(cut(8, 4)), notes(note(8, 3))},
		{note(10, 5), edits(insertion(10, 4)), notes(note(14, 5))},
		{note(10, 5), edits(insertion(12, 4)), notes(note(10, 9))},
		{note(10, 5), nil, notes(note(10, 5))},
		// The ends of cuts.
		{note(10, 5), edits(cut(15, 4)), notes(note(10, 5))},
		{note(10, 5), edits(cut(14, 4)), notes(note(10, 4))},
		{note(10, 5), edits(cut(14, 1)), notes(note(10, 4))},
		{note(10, 5), edits(cut(11, 3)), notes(note(10, 2))},
		{note(10, 5), edits(cut(11, 1000000)), notes(note(10, 1))},
		{note(10, 5), edits(cut(10, 1)), notes(note(10, 4))},
		{note(10, 5), edits(cut(10, 4)), notes(note(10, 1))},
		{note(10, 5), edits(cut(10, 5)), nil},
		{note(10, 5), edits(cut(9, 5)), notes(note(9, 1))},
		{note(10, 5), edits(cut(9, 6)), nil},
		{note(10, 5), edits(cut(0, 20)), nil},
		{note(10, 5), edits(cut(0, 15)), nil},
		{note(10, 5), edits(cut(0, 14)), notes(note(0, 1))},
		{note(10, 5), edits(cut(0, 10)), notes(note(0, 5))},
		{note(10, 5), edits(cut(0, 9)), notes(note(1, 5))},
		{note(10, 5), edits(cut(6, 4)), notes(note(6, 5))},
		{note(10, 5), edits(cut(6, 3)), notes(note(7, 5))},
		{note(10, 1), edits(cut(10, 1)), nil},
		{note(10, 1), edits(cut(9, 1)), notes(note(9, 1))},
		{note(10, 1), edits(cut(11, 1)), notes(note(10, 1))},
		// A note without samples.
		{note(10, 0), edits(cut(10, 1)), nil},
		{note(10, 0), edits(cut(9, 1)), notes(note(9, 0))},
		{note(10, 0), edits(cut(9, 2)), nil},
		{note(10, 0), edits(cut(8, 2)), notes(note(8, 0))},
		{note(10, 0), edits(cut(11, 1)), notes(note(10, 0))},
		{note(10, 0), edits(insertion(10, 3)), notes(note(13, 0))},
		{note(10, 0), edits(insertion(9, 3)), notes(note(13, 0))},
		{note(10, 0), edits(insertion(11, 3)), notes(note(10, 0))},
		{note(0, 0), edits(insertion(0, 1)), notes(note(1, 0))},
		{note(0, 0), edits(cut(0, 1)), nil},
		// The ends of insertions.
		{note(10, 5), edits(insertion(9, 4)), notes(note(14, 5))},
		{note(10, 5), edits(insertion(0, 4)), notes(note(14, 5))},
		{note(10, 5), edits(insertion(11, 4)), notes(note(10, 9))},
		{note(10, 5), edits(insertion(14, 4)), notes(note(10, 9))},
		{note(10, 5), edits(insertion(15, 4)), notes(note(10, 5))},
		{note(10, 5), edits(insertion(16, 4)), notes(note(10, 5))},
		{note(10, 1), edits(insertion(11, 4)), notes(note(10, 1))},
		// One edit after the other.
		{note(10, 5), edits(insertion(0, 5), cut(14, 2)), notes(note(14, 4))},
		{note(10, 5), edits(cut(14, 2), insertion(0, 5)), notes(note(15, 4))},
		{note(10, 5), edits(cut(10, 4), cut(10, 1)), nil},
		{note(10, 5), edits(cut(10, 5), insertion(10, 5)), nil},
		// The limits do not hold for results.
		{note(maxPosition, maxPosition), edits(insertion(0, maxPosition), insertion(maxPosition, maxPosition)), notes(note(3*maxPosition, maxPosition))},
		{note(0, maxPosition), edits(insertion(1, maxPosition), insertion(maxPosition, maxPosition)), notes(note(0, 3*maxPosition))},
		{note(maxPosition, maxPosition), slices.Repeat(edits(insertion(maxPosition, maxPosition)), 20), notes(note(21*maxPosition, maxPosition))},
		{note(maxPosition, 0), edits(cut(0, maxPosition)), notes(note(0, 0))},
		{note(maxPosition, 0), edits(cut(1, maxPosition)), nil},
	} {
		expect(t, v, shown(listen.Moved(notes(v.note), v.edits)), shown(v.want, api.OK))
	}
	l := notes(api.ListenNote{At: 5, Length: 2, Text: "b"}, api.ListenNote{At: 1, Text: ""}, api.ListenNote{At: 3, Length: 9, Text: "a"}, api.ListenNote{At: 5, Length: 2, Text: strings.Repeat("\x00", 40)})
	expect(t, l, shown(listen.Moved(l, edits(cut(1, 2)))), shown(notes(api.ListenNote{At: 3, Length: 2, Text: "b"}, api.ListenNote{At: 1, Length: 9, Text: "a"}, api.ListenNote{At: 3, Length: 2, Text: strings.Repeat("\x00", 40)}), api.OK))
	expect(t, "none", shown(listen.Moved(nil, edits(cut(1, 2)))), shown(notes(), api.OK))
}

// A sample of the model is of a note, is its position (a note without samples has no others), or neither.
const (
	elsewhere = iota
	inside
	point
)

// moved returns a note, all of whose samples are among the first hundred, after an edit of a list of samples.
func moved(x api.ListenNote, e api.ListenEdit) (api.ListenNote, bool) {
	samples := make([]int, 100)
	for i := range x.Length {
		samples[x.At+i] = inside
	}
	if x.Length == 0 {
		samples[x.At] = point
	}
	if e.Insert {
		added := make([]int, e.Length)
		if e.At > 0 && samples[e.At-1] == inside && samples[e.At] == inside {
			added = slices.Repeat([]int{inside}, e.Length)
		}
		samples = slices.Insert(samples, e.At, added...)
	} else {
		samples = slices.Delete(samples, e.At, e.At+e.Length)
	}
	first := slices.IndexFunc(samples, func(kind int) bool { return kind != elsewhere })
	if first < 0 {
		return api.ListenNote{}, false
	}
	after := api.ListenNote{At: first, Text: x.Text}
	for _, kind := range samples {
		if kind == inside {
			after.Length++
		}
	}
	return after, true
}

func someEdit(d *rand.Rand) api.ListenEdit {
	return api.ListenEdit{Insert: d.IntN(2) == 0, At: d.IntN(30), Length: between(d, 1, 8)}
}

func someNotes(d *rand.Rand) []api.ListenNote {
	var l []api.ListenNote
	for range d.IntN(21) {
		l = append(l, api.ListenNote{At: d.IntN(25), Length: max(d.IntN(9)-2, 0), Text: string(rune('a' + d.IntN(26)))})
	}
	return l
}

// P9.6, P9.13
func TestSomeMoves(t *testing.T) {
	d := dice(7)
	for range 3000 {
		l := someNotes(d)
		var given []api.ListenEdit
		want := l
		for range d.IntN(4) {
			e := someEdit(d)
			given = append(given, e)
			var next []api.ListenNote
			for _, x := range want {
				after, remains := moved(x, e)
				if remains {
					next = append(next, after)
				}
				if !e.Insert && x.At+max(x.Length, 1) <= e.At && after != x {
					t.Error(x, e, after)
				}
			}
			want = next
		}
		expect(t, shown(l, given), shown(listen.Moved(l, given)), shown(want, api.OK))
		slices.SortFunc(l, func(a, b api.ListenNote) int { return a.At - b.At })
		got, e := listen.Moved(l, given)
		if e != api.OK || !slices.IsSortedFunc(got, func(a, b api.ListenNote) int { return a.At - b.At }) {
			t.Error(l, given, got, e)
		}
		at, length := d.IntN(40), between(d, 1, 30)
		expect(t, l, shown(listen.Moved(l, edits(insertion(at, length), cut(at, length)))), shown(l, api.OK))
	}
}

// P9.6
func TestErrorsOfMoves(t *testing.T) {
	right, fine := notes(note(0, 0)), edits(cut(0, 1))
	check := func(l []api.ListenNote, x []api.ListenEdit, want api.Errno) {
		t.Helper()
		var zero []api.ListenNote
		got, e := listen.Moved(l, x)
		if want == api.OK {
			zero = got
		}
		expect(t, shown(l, x), shown(got, e), shown(zero, want))
	}
	for _, n := range beyond(0, maxPosition) {
		check(notes(note(n, 0)), fine, api.ErrRange)
		check(notes(note(0, n)), fine, api.ErrRange)
		check(append(slices.Repeat(right, 19), note(n, 1)), nil, api.ErrRange)
		check(right, edits(cut(n, 1)), api.ErrRange)
		check(right, edits(insertion(n, 1)), api.ErrRange)
		check(right, append(slices.Repeat(fine, 19), insertion(n, 1)), api.ErrRange)
		check(nil, edits(cut(n, 1)), api.ErrRange)
		check(notes(api.ListenNote{At: n, Text: strings.Repeat("x", 41)}), fine, api.ErrRange)
		check(notes(api.ListenNote{Length: n, Text: strings.Repeat("x", 41)}), fine, api.ErrRange)
	}
	for _, n := range beyond(1, maxPosition) {
		check(right, edits(cut(0, n)), api.ErrRange)
		check(right, edits(insertion(0, n)), api.ErrRange)
		check(nil, edits(insertion(1000, 1), cut(0, n)), api.ErrRange)
	}
	for _, size := range []int{41, 100000} {
		x := api.ListenNote{Text: strings.Repeat("x", size)}
		check(notes(x), fine, api.ErrLarge)
		check(append(slices.Repeat(right, 19), x), fine, api.ErrLarge)
		check(notes(x, note(-1, 0)), edits(cut(0, 0)), api.ErrLarge)
		check(notes(note(-1, 0), x), fine, api.ErrRange)
	}
	check(slices.Repeat(right, 21), fine, api.ErrLarge)
	check(make([]api.ListenNote, 100000), fine, api.ErrLarge)
	check(slices.Repeat(notes(note(-1, 0)), 21), edits(cut(-1, 1)), api.ErrLarge)
	check(right, slices.Repeat(fine, 21), api.ErrLarge)
	check(right, make([]api.ListenEdit, 21), api.ErrLarge)
	check(notes(note(-1, 0)), slices.Repeat(fine, 21), api.ErrRange)
	check(slices.Repeat(right, 20), slices.Repeat(fine, 20), api.OK)
	check(notes(note(maxPosition, maxPosition)), edits(cut(maxPosition, maxPosition)), api.OK)
}
