package archive

import (
	"slices"
	"strings"

	"lacquer/api"
)

// CheckLog returns the error of a log, and the index of the entry that has it (P10.2).
func CheckLog(h api.ArchiveHouse, l []api.ArchiveEntry) (int, api.Errno) {
	_, i, e := read(h, l)
	return i, e
}

// StateOf returns the state after a log (P10.2).
func StateOf(h api.ArchiveHouse, l []api.ArchiveEntry) (api.ArchiveState, api.Errno) {
	r, _, e := read(h, l)
	if e != api.OK {
		return api.ArchiveState{}, e
	}
	return r.state(), api.OK
}

// Accept returns the log with one more entry (P10.2).
func Accept(h api.ArchiveHouse, l []api.ArchiveEntry, x api.ArchiveEntry) ([]api.ArchiveEntry, api.Errno) {
	r, _, e := read(h, l)
	if e != api.OK {
		return nil, e
	}
	if e := r.accept(l, x); e != api.OK {
		return nil, e
	}
	return append(slices.Clone(l), x), api.OK
}

// Merged returns a log with the entries of a copy that it does not have, and the indexes of those that are not accepted (P10.3).
func Merged(h api.ArchiveHouse, a, b []api.ArchiveEntry) ([]api.ArchiveEntry, []int, api.Errno) {
	r, _, e := read(h, a)
	_, copyError := CheckLog(h, b)
	if e = firstError(e, copyError); e != api.OK {
		return nil, nil, e
	}
	log := slices.Clone(a)
	var refused []int
	for i := commonBeginning(a, b); i < len(b); i++ {
		if r.accept(log, b[i]) == api.OK {
			log = append(log, b[i])
		} else {
			refused = append(refused, i)
		}
	}
	return log, refused, api.OK
}

// UpTo returns the entries of a log up to the end of a day (P10.3).
func UpTo(h api.ArchiveHouse, l []api.ArchiveEntry, day int) ([]api.ArchiveEntry, api.Errno) {
	_, e := CheckLog(h, l)
	if e = firstError(e, when(day < 0 || day > api.MaxDate, api.ErrRange)); e != api.OK {
		return nil, e
	}
	end := slices.IndexFunc(l, func(x api.ArchiveEntry) bool { return beginsAfter(x, day) })
	if end < 0 {
		end = len(l)
	}
	return slices.Clone(l[:end]), api.OK
}

// accept changes the record of a log by one more entry of it.
func (r *record) accept(l []api.ArchiveEntry, x api.ArchiveEntry) api.Errno {
	if len(l) >= api.MaxArchiveLog {
		return api.ErrLarge
	}
	return r.enter(x)
}

// commonBeginning returns how many entries both logs begin with.
func commonBeginning(a, b []api.ArchiveEntry) int {
	count := 0
	for count < min(len(a), len(b)) && a[count] == b[count] {
		count++
	}
	return count
}

// beginsAfter says whether an entry, which is valid, begins a day after another one.
func beginsAfter(x api.ArchiveEntry, day int) bool {
	word, isDay := strings.CutPrefix(x.Text, "day ")
	if !isDay {
		return false
	}
	date, _ := dateIn(word)
	return date > day
}
