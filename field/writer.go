package field

import (
	"drayage/api"
)

// Writer collects encoded numbers and texts. It is spoilt once it was given a text that is too long.
type Writer struct {
	bytes  []byte
	spoilt bool
}

// U8 appends n in one byte.
func (w *Writer) U8(n uint8) *Writer { return w.number(uint64(n), 1) }

// U16 appends n in two bytes.
func (w *Writer) U16(n uint16) *Writer { return w.number(uint64(n), 2) }

// U32 appends n in four bytes.
func (w *Writer) U32(n uint32) *Writer { return w.number(uint64(n), 4) }

// U64 appends n in eight bytes.
func (w *Writer) U64(n uint64) *Writer { return w.number(n, 8) }

// Text appends the length of s in one byte, and s; a text that is too long spoils the writer.
func (w *Writer) Text(s []byte) *Writer {
	if w == nil || w.spoilt {
		return w
	}
	if len(s) > api.MaxText {
		// Nobody can see the bytes of a spoilt writer, so they are not kept.
		w.bytes, w.spoilt = nil, true
		return w
	}
	w.bytes = append(w.bytes, byte(len(s)))
	w.bytes = append(w.bytes, s...)
	return w
}

// Done returns a copy of all bytes that were written; the writer can be written to further.
func (w *Writer) Done() ([]byte, api.Errno) {
	if w == nil {
		return nil, api.ErrNil
	}
	if w.spoilt {
		return nil, api.ErrLong
	}
	return fresh(w.bytes), api.OK
}

func (w *Writer) number(n uint64, size int) *Writer {
	if w == nil || w.spoilt {
		return w
	}
	for i := range size {
		w.bytes = append(w.bytes, byte(n>>(8*(size-1-i))))
	}
	return w
}
