// Package bills writes and reads bills.
package bills

import (
	"strconv"

	"tariff/api"
	"tariff/check"
	"tariff/run"
)

// readers: how many there are, from 0 on.
const readers = 1 << api.Secrets

// Text answers the bill of what the rules of a text tell a reader.
func Text(text string, fields []int, reader int) (string, api.Errno) {
	notes, errno := run.Text(text, fields)
	if errno != api.OK {
		return "", errno
	}
	if reader < 0 || reader >= readers {
		return "", api.ErrArg
	}
	return ofNotes(notes, reader), api.OK
}

// ofNotes gathers bytes, not strings: so each line is copied a few times at
// most, however many there are.
func ofNotes(notes []api.Note, reader int) string {
	var lines []byte
	for _, note := range notes {
		if isShown(note, reader) {
			line := lineOf(note)
			lines = append(lines, line...)
		}
	}
	return string(lines)
}

// isShown: what was opened is on a bill only where it is told.
func isShown(note api.Note, reader int) bool {
	return note.Kind == api.Told && check.Flows(note.Label, reader)
}

func lineOf(note api.Note) string {
	place := strconv.Itoa(note.Place)
	v := written(note.Value)
	return place + ":" + v + "\n"
}

func written(v api.Value) string {
	if v.Fault != api.Fine {
		return "!" + strconv.Itoa(v.Fault)
	}
	return strconv.Itoa(v.Num)
}
