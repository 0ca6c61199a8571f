package field_test

import (
	"bytes"
	"testing"

	"drayage/api"
	"drayage/field"
)

func wantBytes(t *testing.T, w *field.Writer, want string) {
	t.Helper()
	if b, e := w.Done(); e != api.OK || string(b) != want {
		t.Errorf("Done: %x, %d, want %x", b, e, want)
	}
}

func wantSpoilt(t *testing.T, w *field.Writer) {
	t.Helper()
	if b, e := w.Done(); e != api.ErrLong || len(b) != 0 {
		t.Errorf("Done: %x, %d, want nothing and ErrLong", b, e)
	}
}

func TestWriterNumbers(t *testing.T) {
	start := field.NewWriter
	wantBytes(t, start(), "")
	wantBytes(t, start().U8(0), "\x00")
	wantBytes(t, start().U8(0xff), "\xff")
	wantBytes(t, start().U16(0), "\x00\x00")
	wantBytes(t, start().U16(258), "\x01\x02")
	wantBytes(t, start().U16(0xffff), "\xff\xff")
	wantBytes(t, start().U32(0), "\x00\x00\x00\x00")
	wantBytes(t, start().U32(0x01020304), "\x01\x02\x03\x04")
	wantBytes(t, start().U32(0xffffffff), "\xff\xff\xff\xff")
	wantBytes(t, start().U64(0), "\x00\x00\x00\x00\x00\x00\x00\x00")
	wantBytes(t, start().U64(0x0102030405060708), "\x01\x02\x03\x04\x05\x06\x07\x08")
	wantBytes(t, start().U64(1<<64-1), "\xff\xff\xff\xff\xff\xff\xff\xff")
}

func TestWriterTexts(t *testing.T) {
	wantBytes(t, field.NewWriter().Text(nil), "\x00")
	wantBytes(t, field.NewWriter().Text([]byte{}), "\x00")
	wantBytes(t, field.NewWriter().Text([]byte("ab")), "\x02ab")
	wantBytes(t, field.NewWriter().Text([]byte("\x00\xff")), "\x02\x00\xff")
	wantBytes(t, field.NewWriter().U16(258).Text([]byte("ab")), "\x01\x02\x02ab")

	for _, n := range []int{1, 127, 128, api.MaxText - 1, api.MaxText} {
		s := bytes.Repeat([]byte{'z'}, n)
		wantBytes(t, field.NewWriter().Text(s), string([]byte{byte(n)})+string(s))
	}
}

func TestWriterSpoilt(t *testing.T) {
	for _, n := range []int{api.MaxText + 1, api.MaxText + 2, 511, 512, 70000} {
		w := field.NewWriter().U8(7)
		if w.Text(make([]byte, n)) != w {
			t.Error("a text that is too long does not return the writer")
		}
		wantSpoilt(t, w)
		wantSpoilt(t, w) // asking changes nothing
		wantSpoilt(t, w.U8(1))
		wantSpoilt(t, w.U16(1))
		wantSpoilt(t, w.U32(1))
		wantSpoilt(t, w.U64(1))
		wantSpoilt(t, w.Text(nil))
		wantSpoilt(t, w.Text([]byte("ab")))
		wantSpoilt(t, w.Text(make([]byte, n)))
	}
	wantSpoilt(t, field.NewWriter().Text(make([]byte, api.MaxText+1)))
}

func TestWriterChains(t *testing.T) {
	w := field.NewWriter()
	for range 2 { // the second time on a spoilt writer
		for _, x := range []*field.Writer{w.U8(1), w.U16(1), w.U32(1), w.U64(1), w.Text([]byte("a")), w.Text(nil)} {
			if x != w {
				t.Error("a method does not return the writer itself")
			}
		}
		w.Text(make([]byte, api.MaxText+1))
	}
}

func TestWriterGoesOnAfterDone(t *testing.T) {
	w := field.NewWriter()
	wantBytes(t, w, "")
	wantBytes(t, w.U8(1), "\x01")
	wantBytes(t, w, "\x01")
	wantBytes(t, w.Text([]byte("a")), "\x01\x01a")
	wantBytes(t, w.U16(2), "\x01\x01a\x00\x02")
}

func TestWriterSharesNoMemory(t *testing.T) {
	s := []byte("abc")
	w := field.NewWriter().Text(s)
	s[0] = 'x'
	wantBytes(t, w, "\x03abc")

	a, _ := w.Done()
	b, _ := w.Done()
	clear(a[:cap(a)])
	_ = append(a, 9, 9, 9)
	if string(b) != "\x03abc" {
		t.Errorf("two results share memory: %x", b)
	}
	wantBytes(t, w, "\x03abc")
	wantBytes(t, w.U8(4), "\x03abc\x04")
	if string(b) != "\x03abc" {
		t.Errorf("a result changes with its writer: %x", b)
	}

	old := []byte("abc")
	field.NewWriter().Text(old[:2:3]).U8(0)
	if string(old) != "abc" {
		t.Errorf("the argument was changed: %q", old)
	}
}

func TestWritersAreIndependent(t *testing.T) {
	a, b := field.NewWriter(), field.NewWriter()
	a.U8(1)
	b.U8(2)
	wantBytes(t, a, "\x01")
	b.Text(make([]byte, api.MaxText+1))
	wantBytes(t, a, "\x01")
	wantSpoilt(t, b)
}

func TestNilWriter(t *testing.T) {
	var w *field.Writer
	for i, x := range []*field.Writer{w.U8(1), w.U16(1), w.U32(1), w.U64(1), w.Text(nil), w.Text([]byte("a")), w.Text(make([]byte, api.MaxText+1))} {
		if x != nil {
			t.Errorf("method %d of a nil writer returns a writer", i)
		}
	}
	if b, e := w.Done(); len(b) != 0 || e != api.ErrNil {
		t.Errorf("Done: %x, %d", b, e)
	}
	if b, e := w.U8(1).Text(make([]byte, 300)).Done(); len(b) != 0 || e != api.ErrNil {
		t.Errorf("Done after a chain: %x, %d", b, e)
	}
}
