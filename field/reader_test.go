package field_test

import (
	"bytes"
	"testing"

	"drayage/api"
	"drayage/field"
)

// readers: each way to read, as a number or as a text whose length stands for it, with the bytes it needs at least.
func readers() []struct {
	name string
	need int
	read func(*field.Reader) uint64
} {
	return []struct {
		name string
		need int
		read func(*field.Reader) uint64
	}{
		{"U8", 1, func(r *field.Reader) uint64 { return uint64(r.U8()) }},
		{"U16", 2, func(r *field.Reader) uint64 { return uint64(r.U16()) }},
		{"U32", 4, func(r *field.Reader) uint64 { return uint64(r.U32()) }},
		{"U64", 8, func(r *field.Reader) uint64 { return r.U64() }},
		{"Text", 3, func(r *field.Reader) uint64 { return uint64(len(r.Text())) }},
	}
}

func wantReader(t *testing.T, r *field.Reader, left int, e api.Errno) {
	t.Helper()
	if r.Left() != left || r.Done() != e {
		t.Errorf("Left %d, Done %d, want %d, %d", r.Left(), r.Done(), left, e)
	}
}

func TestReaderNumbers(t *testing.T) {
	r := field.NewReader([]byte("\xfe\x01\x02\x03\x04\x05\x06\x07\x08\x09\x0a\x0b\x0c\x0d\x0e\xff"))
	wantReader(t, r, 16, api.ErrMore)
	if n := r.U8(); n != 0xfe {
		t.Errorf("U8: %x", n)
	}
	wantReader(t, r, 15, api.ErrMore)
	if n := r.U16(); n != 0x0102 {
		t.Errorf("U16: %x", n)
	}
	wantReader(t, r, 13, api.ErrMore)
	if n := r.U32(); n != 0x03040506 {
		t.Errorf("U32: %x", n)
	}
	wantReader(t, r, 9, api.ErrMore)
	if n := r.U64(); n != 0x0708090a0b0c0d0e {
		t.Errorf("U64: %x", n)
	}
	wantReader(t, r, 1, api.ErrMore)
	if n := r.U8(); n != 0xff {
		t.Errorf("U8: %x", n)
	}
	wantReader(t, r, 0, api.OK)
}

func TestReaderGreatest(t *testing.T) {
	r := field.NewReader(bytes.Repeat([]byte{0xff}, 15))
	if a, b, c, d := r.U64(), r.U32(), r.U16(), r.U8(); a != 1<<64-1 || b != 1<<32-1 || c != 1<<16-1 || d != 255 {
		t.Error(a, b, c, d)
	}
	wantReader(t, r, 0, api.OK)
}

func TestReaderTexts(t *testing.T) {
	r := field.NewReader([]byte("\x00\x02ab\x01\x00"))
	if s := r.Text(); len(s) != 0 {
		t.Errorf("%q", s)
	}
	wantReader(t, r, 5, api.ErrMore)
	if s := r.Text(); string(s) != "ab" {
		t.Errorf("%q", s)
	}
	wantReader(t, r, 2, api.ErrMore)
	if s := r.Text(); string(s) != "\x00" {
		t.Errorf("%q", s)
	}
	wantReader(t, r, 0, api.OK)

	for _, n := range []int{127, 128, api.MaxText} {
		s := bytes.Repeat([]byte{'q'}, n)
		r := field.NewReader(append([]byte{byte(n)}, s...))
		if got := r.Text(); !bytes.Equal(got, s) {
			t.Errorf("a text of %d bytes: %q", n, got)
		}
		wantReader(t, r, 0, api.OK)
	}
}

func TestReaderExample(t *testing.T) {
	b := []byte("\x01\x02\x02ab")
	r := field.NewReader(b)
	if n, s := r.U16(), r.Text(); n != 258 || string(s) != "ab" {
		t.Error(n, s)
	}
	wantReader(t, r, 0, api.OK)

	r = field.NewReader(b)
	if a, b, c := r.U32(), r.U8(), r.U8(); a != 16908897 || b != 98 || c != 0 {
		t.Error(a, b, c)
	}
	wantReader(t, r, 0, api.ErrShort)
}

// A call that needs more bytes than are left changes the offset by nothing, and all calls after it answer zero.
func TestReaderShort(t *testing.T) {
	for _, x := range readers() {
		for n := range x.need {
			all := append([]byte{2}, bytes.Repeat([]byte{0xee}, 7)...)
			r := field.NewReader(all[:n])
			if got := x.read(r); got != 0 {
				t.Errorf("%s of %d bytes: %d", x.name, n, got)
			}
			wantReader(t, r, n, api.ErrShort)
			for _, y := range readers() {
				if got := y.read(r); got != 0 {
					t.Errorf("%s after a short %s: %d", y.name, x.name, got)
				}
				wantReader(t, r, n, api.ErrShort)
			}
		}
	}
}

// What is short stays short, even if the bytes that are left are enough for another call.
func TestReaderShortInTheMiddle(t *testing.T) {
	for _, b := range []string{"\x07\x02a", "\x07\x03ab"} {
		r := field.NewReader([]byte(b))
		if n := r.U8(); n != 7 {
			t.Error(n)
		}
		if s := r.Text(); len(s) != 0 {
			t.Errorf("%q", s)
		}
		wantReader(t, r, len(b)-1, api.ErrShort)
		if n := r.U8(); n != 0 {
			t.Error(n)
		}
		if n := r.U16(); n != 0 {
			t.Error(n)
		}
		wantReader(t, r, len(b)-1, api.ErrShort)
	}
}

func TestReaderLongTextCutOff(t *testing.T) {
	b := append([]byte{255}, make([]byte, 254)...)
	r := field.NewReader(b)
	if s := r.Text(); len(s) != 0 {
		t.Error(len(s))
	}
	wantReader(t, r, 255, api.ErrShort)
}

func TestReaderEmpty(t *testing.T) {
	for _, b := range [][]byte{nil, {}} {
		wantReader(t, field.NewReader(b), 0, api.OK)
		for _, x := range readers() {
			r := field.NewReader(b)
			if n := x.read(r); n != 0 {
				t.Error(x.name, n)
			}
			wantReader(t, r, 0, api.ErrShort)
		}
	}
}

func TestReaderSharesNoMemory(t *testing.T) {
	b := []byte("\x02ab\x02cd")
	r := field.NewReader(b)
	clear(b)
	a := r.Text()
	if string(a) != "ab" {
		t.Errorf("the reader keeps its argument: %q", a)
	}
	_ = append(a, 9, 9, 9)
	clear(a[:cap(a)])
	c := r.Text()
	if string(c) != "cd" {
		t.Errorf("a text shares memory with its reader: %q", c)
	}
	wantReader(t, r, 0, api.OK)

	old := []byte("\x02ab")
	s := field.NewReader(old).Text()
	s[0] = 'x'
	if string(old) != "\x02ab" {
		t.Errorf("a text shares memory with the argument: %q", old)
	}
}

func TestReadersAreIndependent(t *testing.T) {
	b := []byte("\x01\x02")
	r, q := field.NewReader(b), field.NewReader(b)
	r.U64()
	wantReader(t, r, 2, api.ErrShort)
	wantReader(t, q, 2, api.ErrMore)
	if n := q.U16(); n != 258 {
		t.Error(n)
	}
	wantReader(t, q, 0, api.OK)
}

func TestNilReader(t *testing.T) {
	var r *field.Reader
	for range 2 {
		for _, x := range readers() {
			if n := x.read(r); n != 0 {
				t.Error(x.name, n)
			}
		}
		wantReader(t, r, 0, api.ErrNil)
	}
}
