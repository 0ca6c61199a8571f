package field_test

import (
	"bytes"
	"cmp"
	"math"
	"slices"
	"testing"

	"drayage/api"
	"drayage/field"
)

func TestPut(t *testing.T) {
	full := bytes.Repeat([]byte{'m'}, api.MaxText)
	for _, x := range []struct {
		name string
		l    []api.Field
		want string
	}{
		{"nothing", nil, ""},
		{"one byte", []api.Field{{Size: 1, N: 7}}, "\x07"},
		{"greatest of one byte", []api.Field{{Size: 1, N: 1<<8 - 1}}, "\xff"},
		{"two bytes", []api.Field{{Size: 2, N: 258}}, "\x01\x02"},
		{"greatest of two bytes", []api.Field{{Size: 2, N: 1<<16 - 1}}, "\xff\xff"},
		{"four bytes", []api.Field{{Size: 4, N: 0x01020304}}, "\x01\x02\x03\x04"},
		{"greatest of four bytes", []api.Field{{Size: 4, N: 1<<32 - 1}}, "\xff\xff\xff\xff"},
		{"eight bytes", []api.Field{{Size: 8, N: 0x0102030405060708}}, "\x01\x02\x03\x04\x05\x06\x07\x08"},
		{"greatest of eight bytes", []api.Field{{Size: 8, N: 1<<64 - 1}}, "\xff\xff\xff\xff\xff\xff\xff\xff"},
		{"a number with an empty text", []api.Field{{Size: 2, N: 1, Text: []byte{}}}, "\x00\x01"},
		{"no text", []api.Field{{}}, "\x00"},
		{"an empty text", []api.Field{{Text: []byte{}}}, "\x00"},
		{"a text", []api.Field{{Text: []byte("ab")}}, "\x02ab"},
		{"the longest text", []api.Field{{Text: full}}, "\xff" + string(full)},
		{"several", []api.Field{{Size: 2, N: 258}, {Text: []byte("ab")}, {}, {Size: 1, N: 3}}, "\x01\x02\x02ab\x00\x03"},
	} {
		if b, e := field.Put(x.l...); e != api.OK || string(b) != x.want {
			t.Errorf("%s: %x, %d, want %x", x.name, b, e, x.want)
		}
	}
}

func TestPutErrors(t *testing.T) {
	long := make([]byte, api.MaxText+1)
	good := api.Field{Size: 1, N: 1}
	for _, x := range []struct {
		name string
		l    []api.Field
		want api.Errno
	}{
		{"size 3", []api.Field{{Size: 3}}, api.ErrArg},
		{"size 5", []api.Field{{Size: 5}}, api.ErrArg},
		{"size 6", []api.Field{{Size: 6}}, api.ErrArg},
		{"size 7", []api.Field{{Size: 7}}, api.ErrArg},
		{"size 9", []api.Field{{Size: 9}}, api.ErrArg},
		{"size 16", []api.Field{{Size: 16}}, api.ErrArg},
		{"size -1", []api.Field{{Size: -1}}, api.ErrArg},
		{"size -8", []api.Field{{Size: -8}}, api.ErrArg},
		{"greatest size", []api.Field{{Size: math.MaxInt}}, api.ErrArg},
		{"least size", []api.Field{{Size: math.MinInt}}, api.ErrArg},
		{"a size whose bits wrap round to 0", []api.Field{{Size: math.MaxInt/4 + 1}}, api.ErrArg},
		{"too great for one byte", []api.Field{{Size: 1, N: 1 << 8}}, api.ErrArg},
		{"too great for two bytes", []api.Field{{Size: 2, N: 1 << 16}}, api.ErrArg},
		{"too great for four bytes", []api.Field{{Size: 4, N: 1 << 32}}, api.ErrArg},
		{"only high bits", []api.Field{{Size: 1, N: 1 << 63}}, api.ErrArg},
		{"a text with a number", []api.Field{{N: 1}}, api.ErrArg},
		{"a text with a great number", []api.Field{{N: 1 << 63, Text: []byte("a")}}, api.ErrArg},
		{"one byte with a text", []api.Field{{Size: 1, Text: []byte("a")}}, api.ErrArg},
		{"two bytes with a text", []api.Field{{Size: 2, Text: []byte("a")}}, api.ErrArg},
		{"four bytes with a text", []api.Field{{Size: 4, Text: []byte("a")}}, api.ErrArg},
		{"eight bytes with a text", []api.Field{{Size: 8, Text: []byte("a")}}, api.ErrArg},
		{"too long a text", []api.Field{{Text: long}}, api.ErrLong},
		{"far too long a text", []api.Field{{Text: make([]byte, 512)}}, api.ErrLong},
		{"ErrArg for the size before ErrLong", []api.Field{{Size: 3, Text: long}}, api.ErrArg},
		{"ErrArg for the number before ErrLong", []api.Field{{N: 1, Text: long}}, api.ErrArg},
		{"ErrArg for the text before ErrLong", []api.Field{{Size: 1, Text: long}}, api.ErrArg},
		{"ErrArg first", []api.Field{good, {Size: 3}, {Text: long}}, api.ErrArg},
		{"ErrLong first", []api.Field{good, {Text: long}, {Size: 3}}, api.ErrLong},
		{"the last one", []api.Field{good, good, {Text: long}}, api.ErrLong},
	} {
		if b, e := field.Put(x.l...); e != x.want || len(b) != 0 {
			t.Errorf("%s: %x, %d, want nothing and %d", x.name, b, e, x.want)
		}
	}
}

func TestPutSharesNoMemory(t *testing.T) {
	s := []byte("ab")
	l := []api.Field{{Text: s[:1]}, {Size: 1, N: 2}}
	a, _ := field.Put(l...)
	b, _ := field.Put(l...)
	if string(s) != "ab" || l[0].N != 0 || l[0].Size != 0 || string(l[0].Text) != "a" || l[1].N != 2 || l[1].Size != 1 {
		t.Error("the arguments were changed", s, l)
	}
	s[0] = 'x'
	clear(a[:cap(a)])
	if string(b) != "\x01a\x02" {
		t.Errorf("results share memory: %x", b)
	}
}

// script turns any bytes into fields that Put accepts.
func script(b []byte) []api.Field {
	var l []api.Field
	for len(b) > 0 {
		size := []int{0, 1, 2, 4, 8}[b[0]%5]
		n := min(len(b)-1, max(size, int(b[0]/5)))
		f := api.Field{Size: size}
		for _, x := range b[1 : 1+n] {
			if size == 0 {
				f.Text = append(f.Text, x)
			} else {
				f.N = f.N<<8 | uint64(x)
			}
		}
		if 0 < size && size < 8 {
			f.N &= 1<<(8*size) - 1
		}
		l, b = append(l, f), b[1+n:]
	}
	return l
}

func write(l []api.Field) *field.Writer {
	w := field.NewWriter()
	for _, f := range l {
		switch f.Size {
		case 0:
			w.Text(f.Text)
		case 1:
			w.U8(uint8(f.N))
		case 2:
			w.U16(uint16(f.N))
		case 4:
			w.U32(uint32(f.N))
		case 8:
			w.U64(f.N)
		}
	}
	return w
}

// readOne reads a number of so many bytes, or for size 0 a text.
func readOne(r *field.Reader, size int) api.Field {
	switch size {
	case 1:
		return api.Field{Size: 1, N: uint64(r.U8())}
	case 2:
		return api.Field{Size: 2, N: uint64(r.U16())}
	case 4:
		return api.Field{Size: 4, N: uint64(r.U32())}
	case 8:
		return api.Field{Size: 8, N: r.U64()}
	}
	return api.Field{Text: r.Text()}
}

func same(a, b api.Field) bool {
	return a.Size == b.Size && a.N == b.N && bytes.Equal(a.Text, b.Text)
}

// A writer and Put write the same; a reader reads the fields back; every cut is found to be short.
func FuzzRoundTrip(f *testing.F) {
	f.Add([]byte(nil))
	f.Add([]byte{0, 1, 2, 3, 4, 5, 6, 7, 8, 9, 10, 11, 12, 13, 14, 15})
	f.Add([]byte{250, 'a', 'b', 'c', 4, 1, 2, 3, 4, 5, 6, 7, 8, 2, 1, 2, 10, 'x', 'y'})
	f.Add(bytes.Repeat([]byte{255, 4, 3, 2, 1, 0}, 40))
	f.Fuzz(func(t *testing.T, b []byte) {
		l := script(b)
		out, e := field.Put(l...)
		if e != api.OK {
			t.Fatalf("Put: %d", e)
		}
		wantBytes(t, write(l), string(out))
		r := field.NewReader(out)
		for i, want := range l {
			if got := readOne(r, want.Size); !same(got, want) {
				t.Fatalf("field %d: %v, want %v", i, got, want)
			}
		}
		wantReader(t, r, 0, api.OK)
		wantReader(t, field.NewReader(append(out, 0)), len(out)+1, api.ErrMore)
		for n := range out {
			r := field.NewReader(out[:n])
			for _, x := range l {
				readOne(r, x.Size)
			}
			if r.Done() != api.ErrShort {
				t.Fatalf("cut to %d of %d bytes: %d", n, len(out), r.Done())
			}
		}
	})
}

// Whatever the bytes are, and whatever is read from them: what was read can be written, and gives the bytes back.
func FuzzReaderOfAnyBytes(f *testing.F) {
	f.Add([]byte(nil), []byte{0, 1, 2, 3, 4})
	f.Add([]byte("\x01\x02\x02ab"), []byte{2, 0})
	f.Add([]byte("\x01\x02\x02ab"), []byte{3, 1, 1, 0})
	f.Add([]byte("\xffabcdefghijklmnopq"), []byte{1, 0, 4, 2})
	f.Add(bytes.Repeat([]byte{3}, 60), []byte{0, 1, 2, 3, 4, 0, 1, 2, 3, 4})
	f.Fuzz(func(t *testing.T, b []byte, how []byte) {
		r := field.NewReader(b)
		var l []api.Field
		short := false
		for _, h := range how {
			size := []int{0, 1, 2, 4, 8}[h%5]
			left := r.Left()
			x := readOne(r, size)
			need := size
			if size == 0 && left > 0 {
				need = 1 + int(b[len(b)-left])
			}
			short = short || left < max(need, 1)
			if short {
				if x.N != 0 || len(x.Text) != 0 {
					t.Fatalf("a short reader returns %v", x)
				}
				wantReader(t, r, left, api.ErrShort)
				continue
			}
			if r.Left() != left-need {
				t.Fatalf("%d bytes left of %d, but %d were read", r.Left(), left, need)
			}
			l = append(l, x)
		}
		out, e := field.Put(l...)
		if e != api.OK || !bytes.Equal(out, b[:len(b)-r.Left()]) {
			t.Fatalf("read %v from %x, and wrote %x, %d", l, b, out, e)
		}
	})
}

// Put answers for any field at all, and its answer is the one that the field's parts ask for.
func FuzzPutAny(f *testing.F) {
	f.Add(0, uint64(0), 0)
	f.Add(0, uint64(0), 255)
	f.Add(0, uint64(0), 256)
	f.Add(0, uint64(1), 256)
	f.Add(1, uint64(256), 0)
	f.Add(3, uint64(1), 1)
	f.Add(8, uint64(1<<64-1), 0)
	f.Add(-1, uint64(1), 0)
	f.Fuzz(func(t *testing.T, size int, n uint64, length int) {
		text := make([]byte, max(0, length%1000))
		most := map[int]uint64{0: 0, 1: 1<<8 - 1, 2: 1<<16 - 1, 4: 1<<32 - 1, 8: 1<<64 - 1}
		limit, known := most[size]
		want, long := api.OK, 1+len(text)
		if size != 0 {
			long = size
		}
		switch {
		case !known, n > limit, size != 0 && len(text) > 0:
			want, long = api.ErrArg, 0
		case len(text) > api.MaxText:
			want, long = api.ErrLong, 0
		}
		if b, e := field.Put(api.Field{Size: size, N: n, Text: text}); e != want || len(b) != long {
			t.Errorf("size %d, number %d, text of %d bytes: %x, %d", size, n, len(text), b, e)
		}
	})
}

func TestNumbersCompareAsTheirEncodings(t *testing.T) {
	numbers := []uint64{0, 1, 2, 127, 128, 254, 255, 256, 257, 258, 511, 512, 65535, 65536, 65537, 1<<24 - 1, 1 << 24, 1<<32 - 1, 1 << 32, 1<<63 - 1, 1 << 63, 1<<64 - 1}
	for _, size := range []int{1, 2, 4, 8} {
		fit := slices.DeleteFunc(slices.Clone(numbers), func(n uint64) bool {
			_, e := field.Put(api.Field{Size: size, N: n})
			return e != api.OK
		})
		for _, a := range fit {
			for _, b := range fit {
				x, _ := field.Put(api.Field{Size: size, N: a})
				y, _ := field.Put(api.Field{Size: size, N: b})
				if bytes.Compare(x, y) != cmp.Compare(a, b) {
					t.Errorf("%d and %d in %d bytes: %x, %x", a, b, size, x, y)
				}
			}
		}
	}
}
