package archive_test

import (
	"strings"
	"testing"

	"lacquer/api"
	"lacquer/archive"
)

// outcome is an entry with its error.
type outcome struct {
	entry string
	e     api.Errno
}

// expectEntries expects the errors of entries, each one after the same log.
func expectEntries(t *testing.T, l []api.ArchiveEntry, outcomes []outcome) {
	t.Helper()
	for _, v := range outcomes {
		x := entry(v.entry)
		after := append(append([]api.ArchiveEntry{}, l...), x)
		if v.e == api.OK {
			expect(t, v, shown(archive.Accept(house(), l, x)), shown(after, api.OK))
			expect(t, v, shown(archive.CheckLog(house(), after)), shown(0, api.OK))
		} else {
			expect(t, v, shown(archive.Accept(house(), l, x)), shown([]string{}, v.e))
			expect(t, v, shown(archive.CheckLog(house(), after)), shown(len(l), v.e))
		}
	}
}

// P10.2, P10.14: the errors that all entries have
func TestEntries(t *testing.T) {
	expectEntries(t, example(), []outcome{
		{"zoe: note x", api.ErrMissing}, {": note x", api.ErrMissing}, {"Lee: note x", api.ErrMissing}, {"lee : note x", api.ErrMissing},
		{"lee: note " + strings.Repeat("x", 295), api.OK}, {"lee: note " + strings.Repeat("x", 296), api.ErrLarge}, {"lee: " + strings.Repeat("x", 301), api.ErrLarge}, {"lee: " + strings.Repeat("\x00", 301), api.ErrLarge}, {"lee: note " + strings.Repeat("x", 100000), api.ErrLarge},
		{"lee: note x\n", api.ErrForm}, {"lee: \nnote x", api.ErrForm}, {"lee: note\tx", api.ErrForm}, {"lee: note \x1f", api.ErrForm}, {"lee: note \x7f", api.ErrForm}, {"lee: note \x80", api.ErrForm}, {"lee: note \xff", api.ErrForm}, {"lee: note \x00", api.ErrForm}, {"lee: n\u00f6te x", api.ErrForm},
		{"lee: note  !\"#$%&'()*+,-./0189:;<=>?@AZ[\\]^_`az{|}~", api.OK},
		{"lee: ", api.ErrSyntax}, {"lee:  ", api.ErrSyntax}, {"lee:  note x", api.ErrSyntax}, {"lee: sing", api.ErrSyntax}, {"lee: Note x", api.ErrSyntax}, {"lee: notes x", api.ErrSyntax}, {"lee: not x", api.ErrSyntax}, {"lee: heard p loud", api.ErrSyntax}, {"lee: note,x", api.ErrSyntax},
		// A note may be empty; the blank before it must be there.
		{"lee: note ", api.OK}, {"lee: note", api.ErrSyntax}, {"lee: note  ", api.OK}, {"lee: note  x  y ", api.OK},
		// Of several errors the first one.
		{"zoe: " + strings.Repeat("x", 301), api.ErrMissing}, {"zoe: \n", api.ErrMissing}, {"zoe: sing", api.ErrMissing}, {"lee: sing\n", api.ErrForm}, {"lee: day\n", api.ErrForm}, {"lee: day", api.ErrAllowed}, {"lee: day x", api.ErrAllowed}, {"lee: embargo", api.ErrAllowed}, {"lee: embargo x y z", api.ErrAllowed}, {"tea: carrier", api.ErrAllowed},
	})
}

// P10.2, P10.14: each role may do what is required of it, and of those below it.
func TestRoles(t *testing.T) {
	l := example("kim: lend d radio 7")
	l = append(l, entries("ray: test p 0")...)
	for text, role := range map[string]int{
		"note ": 0, "day 3": 1, "carrier e disc 1 78/1": 3, "embargo d 5": 3, "back d": 3, "project q d": 2, "step p undo loud": 2, "listen p play 0": 0, "hear p loud": 0, "deliver p loud radio": 3,
	} {
		for i, p := range []string{"lee", "tea", "ray", "kim"} {
			want := api.OK
			if i < role {
				want = api.ErrAllowed
			}
			expectEntries(t, l, []outcome{{p + ": " + text, want}})
		}
	}
	for text, role := range map[string]int{"lend d radio 7": 3, "block d " + block(1): 1, "test p 01": 2, "step p redo loud": 2} {
		for i, p := range []string{"lee", "tea", "ray", "kim"} {
			want := api.OK
			if i < role {
				want = api.ErrAllowed
			}
			expectEntries(t, example("ray: step p undo loud"), []outcome{{p + ": " + text, want}})
		}
	}
}

// P10.2: the words of an entry
func TestWords(t *testing.T) {
	l := example("ray: test p 0")
	for _, text := range []string{"day 3", "embargo d 5", "lend d radio 7", "project q d", "hear p loud", "deliver p loud radio"} {
		words := strings.Split(text, " ")
		expectEntries(t, l, []outcome{
			{"kim: " + text, api.OK}, {"kim: " + text + " ", api.ErrSyntax}, {"kim: " + text + " x", api.ErrSyntax}, {"kim: " + strings.Replace(text, " ", "  ", 1), api.ErrSyntax},
			{"kim: " + words[0], api.ErrSyntax}, {"kim: " + words[0] + " ", api.ErrSyntax}, {"kim: " + strings.Join(words[:len(words)-1], " "), api.ErrSyntax}, {"kim: " + strings.Join(words[:len(words)-1], " ") + " ", api.ErrSyntax},
		})
		if len(words) > 2 {
			expectEntries(t, l, []outcome{{"kim: " + words[0] + " " + words[1] + "  " + strings.Join(words[2:], " "), api.ErrSyntax}})
		}
	}
	expectEntries(t, l, []outcome{
		{"kim: back", api.ErrSyntax}, {"kim: back ", api.ErrSyntax}, {"kim: back d ", api.ErrSyntax}, {"kim: back  d", api.ErrSyntax}, {"kim: back d d", api.ErrSyntax}, {"kim: back d", api.ErrState},
		// A TEXT may be empty, and contain more blanks: what it should be is said by its own error.
		{"kim: carrier", api.ErrSyntax}, {"kim: carrier ", api.ErrSyntax}, {"kim: block d", api.ErrSyntax}, {"kim: block d ", api.ErrSyntax}, {"kim: block  " + block(1), api.ErrSyntax}, {"kim: block e", api.ErrSyntax}, {"kim: block e ", api.ErrMissing},
		{"kim: step p", api.ErrSyntax}, {"kim: step q", api.ErrSyntax}, {"kim: step q ", api.ErrMissing}, {"kim: step  undo loud", api.ErrSyntax}, {"kim: step p  undo loud", api.ErrSyntax}, {"kim: step p undo loud", api.OK}, {"kim: step p undo loud ", api.ErrName},
		{"kim: test p", api.ErrSyntax}, {"kim: test q", api.ErrSyntax}, {"kim: test q ", api.ErrMissing}, {"kim: test  0", api.ErrSyntax},
		{"kim: listen p", api.ErrSyntax}, {"kim: listen q", api.ErrSyntax}, {"kim: listen q ", api.ErrMissing}, {"kim: listen  stop", api.ErrSyntax}, {"kim: listen p stop ", api.ErrSyntax}, {"kim: listen p  stop", api.ErrSyntax},
		{"kim: note", api.ErrSyntax},
	})
}

// badDate is the string of a date with its error.
type badDate struct {
	text string
	e    api.Errno
}

func badDates() []badDate {
	l := []badDate{{"100001", api.ErrRange}, {"999999", api.ErrRange}, {"200000", api.ErrRange}}
	for _, s := range []string{"x", "-1", "-0", "+1", "01", "00", "000007", "1.0", "1e3", "0x1", "1_0", "7x", "x7", "1000000", "0100000", "9999999", "99999999999999999999", "18446744073709551616", "1/1", "1,2", "-"} {
		l = append(l, badDate{s, api.ErrForm})
	}
	return l
}

// P10.2
func TestDay(t *testing.T) {
	l := example("tea: day 5")
	expectEntries(t, l, []outcome{
		// A day that is repeated is permitted.
		{"tea: day 5", api.OK}, {"tea: day 6", api.OK}, {"tea: day 100000", api.OK}, {"tea: day 4", api.ErrOrder}, {"tea: day 0", api.ErrOrder},
	})
	expectEntries(t, nil, []outcome{{"tea: day 0", api.OK}, {"tea: day 1", api.OK}, {"tea: day 9", api.OK}})
	for _, v := range badDates() {
		expectEntries(t, nil, []outcome{{"tea: day " + v.text, v.e}})
		expectEntries(t, l, []outcome{{"tea: day " + v.text, v.e}})
	}
	for _, days := range []struct {
		l    []string
		want int
	}{
		{nil, 0}, {[]string{"tea: day 0"}, 0}, {[]string{"tea: day 7"}, 7}, {[]string{"tea: day 7", "tea: day 7", "kim: day 9"}, 9}, {[]string{"tea: day 100000", "ray: day 100000"}, 100000}, {[]string{"tea: day 7", "lee: note day 9"}, 7},
	} {
		s := stateOf(t, entries(days.l...))
		expect(t, days, shown(s), shown(api.ArchiveState{Day: days.want}))
	}
}
