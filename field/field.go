// Package field is layer 1: see shared/doc/01-field.md.
package field

import (
	"drayage/api"
)

// NewWriter returns a writer without bytes.
func NewWriter() *Writer { return &Writer{} }

// NewReader returns a reader at the beginning of b.
func NewReader(b []byte) *Reader {
	// A copy, so that the caller may change b while the reader is in use.
	return &Reader{bytes: fresh(b)}
}

// Put returns the encodings of all fields, one behind the other, or the error of the first field that has one.
func Put(l ...api.Field) ([]byte, api.Errno) {
	w := NewWriter()
	for _, f := range l {
		if e := check(f); e != api.OK {
			return nil, e
		}
		if f.Size == 0 {
			w.Text(f.Text)
		} else {
			w.number(f.N, f.Size)
		}
	}
	return w.Done()
}

func check(f api.Field) api.Errno {
	switch f.Size {
	case 0, 1, 2, 4, 8:
	default:
		return api.ErrArg
	}
	// A shift by all 64 bits leaves 0, so every N fits into 8 bytes; a shift by none leaves N itself, so a text has to have N 0.
	if f.N>>(8*f.Size) != 0 {
		return api.ErrArg
	}
	if f.Size != 0 && len(f.Text) != 0 {
		return api.ErrArg
	}
	if len(f.Text) > api.MaxText {
		return api.ErrLong
	}
	return api.OK
}

func fresh(b []byte) []byte {
	c := make([]byte, len(b))
	copy(c, b)
	return c
}
