package field

import (
	"drayage/api"
)

// Reader reads numbers and texts from its offset on. It is short once a call needed more bytes than were left.
type Reader struct {
	bytes []byte
	at    int
	short bool
}

// U8 reads a number of one byte.
func (r *Reader) U8() uint8 { return uint8(r.number(1)) }

// U16 reads a number of two bytes.
func (r *Reader) U16() uint16 { return uint16(r.number(2)) }

// U32 reads a number of four bytes.
func (r *Reader) U32() uint32 { return uint32(r.number(4)) }

// U64 reads a number of eight bytes.
func (r *Reader) U64() uint64 { return r.number(8) }

// Text reads a length in one byte, and as many bytes as it says.
func (r *Reader) Text() []byte {
	if !r.has(1) {
		return nil
	}
	// Both parts are asked for together, so that the offset stays before the length if the text is cut off.
	size := 1 + int(r.bytes[r.at])
	if !r.has(size) {
		return nil
	}
	s := fresh(r.bytes[r.at+1 : r.at+size])
	r.at += size
	return s
}

// Left returns how many bytes there are from the offset to the end.
func (r *Reader) Left() int {
	if r == nil {
		return 0
	}
	return len(r.bytes) - r.at
}

// Done tells whether all that was read was there, and nothing is left.
func (r *Reader) Done() api.Errno {
	switch {
	case r == nil:
		return api.ErrNil
	case r.short:
		return api.ErrShort
	case r.Left() > 0:
		return api.ErrMore
	}
	return api.OK
}

func (r *Reader) number(size int) uint64 {
	if !r.has(size) {
		return 0
	}
	n := uint64(0)
	for i := range size {
		n = n<<8 | uint64(r.bytes[r.at+i])
	}
	r.at += size
	return n
}

// has tells whether size bytes can be read; if they can't, the reader is short from then on.
func (r *Reader) has(size int) bool {
	if r == nil {
		return false
	}
	if r.Left() < size {
		r.short = true
	}
	return !r.short
}
