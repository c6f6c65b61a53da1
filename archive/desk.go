package archive

import (
	"slices"

	"lacquer/api"
)

// book is the log of a house.
type book struct {
	house api.ArchiveHouse
	log   []api.ArchiveEntry
}

// Desk keeps a record.
type Desk struct{ book }

// New returns a desk with an empty log (P10.8).
func New(h api.ArchiveHouse) (*Desk, api.Errno) {
	if _, e := CheckHouse(h); e != api.OK {
		return nil, e
	}
	return &Desk{book{house: api.ArchiveHouse{People: slices.Clone(h.People)}}}, api.OK
}

// Enter appends an entry (P10.8).
func (d *Desk) Enter(by, text string) api.Errno {
	if d == nil {
		return api.ErrNil
	}
	log, e := Accept(d.house, d.log, api.ArchiveEntry{By: by, Text: text})
	if e != api.OK {
		return e
	}
	d.log = log
	return api.OK
}

// Undo removes the last entry, and returns it (P10.8).
func (d *Desk) Undo() (api.ArchiveEntry, api.Errno) {
	if d == nil {
		return api.ArchiveEntry{}, api.ErrNil
	}
	if len(d.log) == 0 {
		return api.ArchiveEntry{}, api.ErrNone
	}
	end := len(d.log) - 1
	last := d.log[end]
	d.log = d.log[:end]
	return last, api.OK
}

// Log returns the log (P10.8).
func (d *Desk) Log() []api.ArchiveEntry {
	if d == nil {
		return nil
	}
	return slices.Clone(d.log)
}

// Ask returns the answer to a question (P10.8).
func (d *Desk) Ask(question string) (string, api.Errno) {
	if d == nil {
		return "", api.ErrNil
	}
	return Ask(d.house, d.log, question)
}

// Journal returns the journal of the log (P10.8).
func (d *Desk) Journal() (string, api.Errno) {
	if d == nil {
		return "", api.ErrNil
	}
	return Journal(d.house, d.log)
}
