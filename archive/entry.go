package archive

import (
	"slices"
	"strings"

	"lacquer/api"
)

const dateDigits = 6

// entryKind is the first word of an entry, the role that it requires, how many words follow, whether a TEXT follows them, and what the entry does.
type entryKind struct {
	word    string
	role    int
	words   int
	hasText bool
	enter   func(*record, request) api.Errno
}

// request is who makes an entry, and what follows its first word: its words, and its TEXT if it has one.
type request struct {
	by    string
	words []string
}

// entryKinds returns the table of the chapter. What an entry does is done only if it has no error.
func entryKinds() []entryKind {
	return []entryKind{
		{"note", api.ArchiveReader, 0, true, (*record).note},
		{"day", api.ArchiveTechnician, 1, false, (*record).beginDay},
		{"carrier", api.ArchiveKeeper, 0, true, (*record).addCarrier},
		{"embargo", api.ArchiveKeeper, 2, false, (*record).embargo},
		{"lend", api.ArchiveKeeper, 3, false, (*record).lend},
		{"back", api.ArchiveKeeper, 1, false, (*record).takeBack},
		{"block", api.ArchiveTechnician, 1, true, (*record).addBlock},
		{"project", api.ArchiveRestorer, 2, false, (*record).addProject},
		{"step", api.ArchiveRestorer, 1, true, (*record).changeSteps},
		{"test", api.ArchiveRestorer, 1, true, (*record).beginTest},
		{"listen", api.ArchiveReader, 1, true, (*record).listenTo},
		{"hear", api.ArchiveReader, 2, false, (*record).hear},
		{"deliver", api.ArchiveKeeper, 3, false, (*record).deliver},
	}
}

// enter changes the record by an entry, or returns its error.
func (r *record) enter(x api.ArchiveEntry) api.Errno {
	person, isKnown := personNamed(r.people, x.By)
	e := firstError(
		when(!isKnown, api.ErrMissing),
		when(len(x.Text) > api.MaxArchiveText, api.ErrLarge))
	if e != api.OK {
		return e
	}
	kind, isKind := kindOf(x.Text)
	words, ok := kind.wordsOf(x.Text)
	e = firstError(
		checkBytes(x.Text),
		when(!isKind, api.ErrSyntax),
		when(person.Role < kind.role, api.ErrAllowed),
		when(!ok, api.ErrSyntax))
	if e != api.OK {
		return e
	}
	return kind.enter(r, request{by: x.By, words: words})
}

// checkBytes returns the error of a text with other bytes than a blank and those that can be seen.
func checkBytes(text string) api.Errno {
	for i := range len(text) {
		if text[i] < ' ' || text[i] > '~' {
			return api.ErrForm
		}
	}
	return api.OK
}

func kindOf(text string) (entryKind, bool) {
	first, _, _ := strings.Cut(text, " ")
	for _, k := range entryKinds() {
		if k.word == first {
			return k, true
		}
	}
	return entryKind{}, false
}

// wordsOf returns what follows the first word of a text, if it is what this kind has.
func (k entryKind) wordsOf(text string) ([]string, bool) {
	if !k.hasText {
		words := strings.Split(text, " ")[1:]
		return words, len(words) == k.words && !slices.Contains(words, "")
	}
	words := strings.SplitN(text, " ", k.words+2)[1:]
	if len(words) <= k.words {
		return nil, false
	}
	return words, !slices.Contains(words[:k.words], "")
}

// dateIn returns the date with this string.
func dateIn(word string) (int, api.Errno) {
	date, ok := numberOf(word, dateDigits)
	return date, firstError(
		when(!ok, api.ErrForm),
		when(date > api.MaxDate, api.ErrRange))
}

// note changes nothing: that it is in the log is all.
func (r *record) note(request) api.Errno {
	return api.OK
}

func (r *record) beginDay(x request) api.Errno {
	date, e := dateIn(x.words[0])
	e = firstError(e, when(date < r.day, api.ErrOrder))
	if e != api.OK {
		return e
	}
	r.day = date
	return api.OK
}
