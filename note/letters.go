package note

import (
	"strings"

	"drayage/api"
	"drayage/field"
)

// letters stand for all the fields beside Kind.
const letters = "EPLTOSUCKD"

// onlyHas tells whether all fields of n whose letters are not among names are zero.
func onlyHas(n api.Note, names string) bool {
	for _, letter := range letters {
		if !strings.ContainsRune(names, letter) && !isZero(n, letter) {
			return false
		}
	}
	return true
}

func isZero(n api.Note, letter rune) bool {
	switch letter {
	case 'E':
		return n.Epoch == 0
	case 'P':
		return n.Old == 0
	case 'L':
		return n.Lsn == 0
	case 'T':
		return n.Tick == 0
	case 'O':
		return n.Order == 0
	case 'S':
		return n.Step == 0
	case 'U':
		return !n.Undo
	case 'C':
		return n.Code == 0
	case 'K':
		return len(n.Key) == 0
	case 'D':
		return len(n.Data) == 0
	}
	return false
}

// inBounds does not ask for the kind: the fields that a note does not have are zero, and zero is within all bounds.
func inBounds(n api.Note) bool {
	return n.Step >= 0 && n.Step < api.MaxSteps &&
		n.Code >= 0 && n.Code <= maxCode &&
		len(n.Key) <= api.MaxKey && len(n.Data) <= api.MaxNote
}

// maxCode is the greatest Code that one byte holds.
const maxCode = 255

// lacksKey tells whether n is the request of a client that does not say which order it is about.
func lacksKey(n api.Note) bool {
	switch n.Kind {
	case api.NoteSubmit, api.NoteCancel, api.NoteQuery:
		return len(n.Key) == 0
	}
	return false
}

func write(w *field.Writer, n api.Note, letter rune) {
	switch letter {
	case 'E':
		w.U32(n.Epoch)
	case 'P':
		w.U32(n.Old)
	case 'L':
		w.U64(n.Lsn)
	case 'T':
		w.U64(n.Tick)
	case 'O':
		w.U32(n.Order)
	case 'S':
		w.U8(uint8(n.Step))
	case 'U':
		w.U8(flag(n.Undo))
	case 'C':
		w.U8(uint8(n.Code))
	case 'K':
		w.Text(n.Key)
	case 'D':
		w.Text(n.Data)
	}
}

// read takes an Undo byte other than 1 for 0: Get finds the difference when it encodes the note again.
func read(r *field.Reader, n *api.Note, letter rune) {
	switch letter {
	case 'E':
		n.Epoch = r.U32()
	case 'P':
		n.Old = r.U32()
	case 'L':
		n.Lsn = r.U64()
	case 'T':
		n.Tick = r.U64()
	case 'O':
		n.Order = r.U32()
	case 'S':
		n.Step = int(r.U8())
	case 'U':
		n.Undo = r.U8() == 1
	case 'C':
		n.Code = int(r.U8())
	case 'K':
		n.Key = r.Text()
	case 'D':
		n.Data = r.Text()
	}
}

func flag(set bool) uint8 {
	if set {
		return 1
	}
	return 0
}
