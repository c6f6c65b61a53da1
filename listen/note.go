package listen

import "lacquer/api"

// Moved returns the notes that remain after all edits (P9.6).
func Moved(notes []api.ListenNote, edits []api.ListenEdit) ([]api.ListenNote, api.Errno) {
	e := firstError(
		when(len(notes) > api.MaxListenNotes, api.ErrLarge),
		checkEach(notes, checkNote),
		when(len(edits) > api.MaxListenNotes, api.ErrLarge),
		checkEach(edits, checkEdit))
	if e != api.OK {
		return nil, e
	}
	var l []api.ListenNote
	for _, note := range notes {
		if after, remains := movedBy(edits, note); remains {
			l = append(l, after)
		}
	}
	return l, api.OK
}

func checkNote(note api.ListenNote) api.Errno {
	inRange := from(0, api.MaxPosition)
	return firstError(
		inRange(note.At),
		inRange(note.Length),
		when(len(note.Text) > api.MaxListenText, api.ErrLarge))
}

func checkEdit(edit api.ListenEdit) api.Errno {
	return firstError(
		from(0, api.MaxPosition)(edit.At),
		from(1, api.MaxPosition)(edit.Length))
}

// movedBy returns a note after all edits, if it remains.
func movedBy(edits []api.ListenEdit, note api.ListenNote) (after api.ListenNote, remains bool) {
	for _, edit := range edits {
		if edit.Insert {
			note = afterInsertion(edit, note)
			continue
		}
		if isCut(edit, note) {
			return api.ListenNote{}, false
		}
		note = afterCut(edit, note)
	}
	return note, true
}

func afterInsertion(edit api.ListenEdit, note api.ListenNote) api.ListenNote {
	switch {
	case edit.At <= note.At:
		note.At += edit.Length
	case edit.At < note.At+note.Length:
		note.Length += edit.Length
	}
	return note
}

// isCut tells whether a cut makes a note disappear. A note without samples does so with the sample at its position.
func isCut(edit api.ListenEdit, note api.ListenNote) bool {
	return edit.At <= note.At && note.At+max(note.Length, 1) <= edit.At+edit.Length
}

func afterCut(edit api.ListenEdit, note api.ListenNote) api.ListenNote {
	// A boundary between samples moves by as many samples as are cut before it.
	place := func(boundary int) int {
		return boundary - min(max(boundary-edit.At, 0), edit.Length)
	}
	end := place(note.At + note.Length)
	note.At = place(note.At)
	note.Length = end - note.At
	return note
}
