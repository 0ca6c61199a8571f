package frame_test

import (
	"bytes"
	"encoding/binary"
	"hash/crc32"
	"math"
	"math/rand"
	"testing"

	"drayage/api"
	"drayage/frame"
)

// source gives the same numbers in every run, so that a failure can be repeated.
func source() *rand.Rand { return rand.New(rand.NewSource(3)) }

func some(r *rand.Rand, n int) []byte {
	b := make([]byte, n)
	r.Read(b)
	return b
}

// byTheWords writes a frame as the chapter says it, with the library's checksum; n is the length that the frame claims.
func byTheWords(n int, body []byte) []byte {
	length := binary.BigEndian.AppendUint16(nil, uint16(n))
	b := append([]byte{0xd7, 0xa6}, length...)
	b = binary.BigEndian.AppendUint32(b, crc32.ChecksumIEEE(append(length, body...)))
	return append(b, body...)
}

// whole returns the frame of a body.
func whole(body []byte) []byte { return byTheWords(len(body), body) }

// behind returns b behind so many bytes that belong to no frame.
func behind(before int, b []byte) []byte {
	return append(bytes.Repeat([]byte{0x55}, before), b...)
}

func wantBad(t *testing.T, name string, b []byte, at int, want api.Errno) {
	t.Helper()
	if body, next, e := frame.Get(b, at); e != want || next != 0 || len(body) != 0 {
		t.Errorf("%s: %x, %d, %d, want nothing, 0 and %d", name, body, next, e, want)
	}
}

func wantGood(t *testing.T, name string, b []byte, at int, body []byte) {
	t.Helper()
	if got, next, e := frame.Get(b, at); e != api.OK || next != at+len(body)+8 || !bytes.Equal(got, body) {
		t.Errorf("%s: %x, %d, %d, want %x, %d and OK", name, got, next, e, body, at+len(body)+8)
	}
}

func TestSize(t *testing.T) {
	for _, x := range []struct{ n, want int }{
		{math.MinInt, 0},
		{-2008, 0},
		{-9, 0},
		{-8, 0},
		{-1, 0},
		{0, 8},
		{1, 9},
		{2, 10},
		{255, 263},
		{1999, 2007},
		{api.MaxBody, 2008},
		{api.MaxBody + 1, 0},
		{65535, 0},
		{65536, 0},
		{math.MaxInt - 7, 0},
		{math.MaxInt, 0},
	} {
		if got := frame.Size(x.n); got != x.want {
			t.Errorf("%d: %d, want %d", x.n, got, x.want)
		}
	}
}

func TestPut(t *testing.T) {
	for _, x := range []struct{ body, want string }{
		{"", "\xd7\xa6\x00\x00\x41\xd9\x12\xff"},
		{"ab", "\xd7\xa6\x00\x02\xfd\x9a\x51\xe0ab"},
		{"123456789", "\xd7\xa6\x00\x09\xba\x6f\xb7\xae123456789"},
	} {
		if b, e := frame.Put([]byte(x.body)); e != api.OK || string(b) != x.want {
			t.Errorf("%q: %x, %d, want %x", x.body, b, e, x.want)
		}
	}
	if b, e := frame.Put(nil); e != api.OK || string(b) != "\xd7\xa6\x00\x00\x41\xd9\x12\xff" {
		t.Errorf("nil: %x, %d", b, e)
	}
}

func TestPutOfEveryLength(t *testing.T) {
	all := some(source(), api.MaxBody)
	for n := range api.MaxBody + 1 {
		b, e := frame.Put(all[:n])
		if e != api.OK || !bytes.Equal(b, whole(all[:n])) {
			t.Errorf("%d bytes: %x, %d", n, b, e)
		}
		if len(b) != frame.Size(n) {
			t.Errorf("%d bytes: a frame of %d bytes, and Size says %d", n, len(b), frame.Size(n))
		}
		wantGood(t, "read back", b, 0, all[:n])
	}
}

func TestPutOfTooMuch(t *testing.T) {
	for _, n := range []int{api.MaxBody + 1, api.MaxBody + 2, 1<<16 - 1, 1 << 16, 1<<16 + 1, 1 << 20} {
		if b, e := frame.Put(make([]byte, n)); e != api.ErrLong || len(b) != 0 {
			t.Errorf("%d bytes: %d bytes, %d", n, len(b), e)
		}
	}
}

func TestGetAtOffsets(t *testing.T) {
	b := append(whole([]byte("ab")), whole(nil)...)
	b = append(b, whole([]byte("c"))...)
	wantGood(t, "the first", b, 0, []byte("ab"))
	wantGood(t, "the second", b, 10, nil)
	wantGood(t, "the last", b, 18, []byte("c"))
	for _, x := range []struct {
		name string
		at   int
		want api.Errno
	}{
		{"least", math.MinInt, api.ErrArg},
		{"below 0", -1, api.ErrArg},
		{"a frame below 0", -8, api.ErrArg},
		{"the end", 27, api.ErrEmpty},
		{"beyond the end", 28, api.ErrArg},
		{"far beyond the end", 1000, api.ErrArg},
		{"greatest", math.MaxInt, api.ErrArg},
		{"the second byte of a frame", 1, api.ErrBad},
		{"the length, of which the first byte is 0", 2, api.ErrEmpty},
		{"the length, of which the second byte is not", 3, api.ErrBad},
		{"a body", 8, api.ErrBad},
		{"the last byte", 26, api.ErrBad},
	} {
		wantBad(t, x.name, b, x.at, x.want)
	}
}

func TestGetOfNothing(t *testing.T) {
	for _, b := range [][]byte{nil, {}} {
		wantBad(t, "at 0", b, 0, api.ErrEmpty)
		wantBad(t, "below 0", b, -1, api.ErrArg)
		wantBad(t, "beyond the end", b, 1, api.ErrArg)
	}
	for n := range 20 {
		for at := range n + 1 {
			wantBad(t, "zeros", make([]byte, n), at, api.ErrEmpty)
		}
	}
	// What stands behind the byte 0 does not count, not even a frame.
	wantBad(t, "a byte 0 in front of a frame", append([]byte{0}, whole([]byte("ab"))...), 0, api.ErrEmpty)
	wantBad(t, "a byte 0 in front of damage", []byte{0, 9, 9, 9, 9, 9, 9, 9, 9, 9}, 0, api.ErrEmpty)
	wantGood(t, "behind that byte 0", append([]byte{0}, whole([]byte("ab"))...), 1, []byte("ab"))
}

func TestGetOfTooFewBytes(t *testing.T) {
	for _, size := range []int{0, 1, 9, 300, api.MaxBody} {
		f := whole(some(source(), size))
		for n := 1; n < len(f); n++ {
			wantBad(t, "cut", f[:n], 0, api.ErrBad)
			// The rest of the frame is no part of the slice, though its capacity reaches there.
			wantBad(t, "cut, behind other bytes", behind(5, f)[:5+n], 5, api.ErrBad)
			wantBad(t, "cut, without spare capacity", bytes.Clone(f[:n]), 0, api.ErrBad)
		}
	}
}

func TestGetOfOtherFirstBytes(t *testing.T) {
	f := whole([]byte("body"))
	for i := range 1 << 16 {
		first := []byte{byte(i >> 8), byte(i)}
		if string(first) == "\xd7\xa6" {
			continue
		}
		want := api.ErrBad
		if first[0] == 0 {
			want = api.ErrEmpty
		}
		wantBad(t, "other first bytes", append(first, f[2:]...), 0, want)
	}
}

// The frames are right but for their lengths: enough bytes follow, and the checksum is that of the length and of so many bytes.
func TestGetOfTooGreatALength(t *testing.T) {
	all := some(source(), 1<<16)
	for _, n := range []int{api.MaxBody + 1, api.MaxBody + 2, 2008, 2048, 1 << 15, 1<<16 - 1} {
		wantBad(t, "longer than MaxBody", byTheWords(n, all[:n]), 0, api.ErrBad)
	}
	wantGood(t, "MaxBody", byTheWords(api.MaxBody, all[:api.MaxBody]), 0, all[:api.MaxBody])
	for _, n := range []int{0, 1, 8, 100, api.MaxBody - 1} {
		wantBad(t, "one byte more than there is", byTheWords(n+1, all[:n]), 0, api.ErrBad)
		wantBad(t, "8 bytes more than there are", byTheWords(n+8, all[:n]), 0, api.ErrBad)
		wantBad(t, "longer than all that there is", byTheWords(1<<16-1, all[:n]), 0, api.ErrBad)
	}
	for _, n := range []int{1, 8, 100, api.MaxBody} {
		wantBad(t, "one byte less than the checksum covers", byTheWords(n-1, all[:n]), 0, api.ErrBad)
	}
}

func TestGetOfAnotherChecksum(t *testing.T) {
	r := source()
	for _, n := range []int{0, 1, 2, 30, api.MaxBody} {
		f := whole(some(r, n))
		put := func(name string, s uint32) {
			t.Helper()
			x := bytes.Clone(f)
			binary.BigEndian.PutUint32(x[4:], s)
			wantBad(t, name, x, 0, api.ErrBad)
		}
		s := binary.BigEndian.Uint32(f[4:])
		for i := range 32 {
			put("a bit of the checksum", s^1<<i)
		}
		for range 50 {
			put("any checksum", s^(r.Uint32()|1))
		}
		put("without the complement", ^s)
		put("the checksum of the body alone", crc32.ChecksumIEEE(f[8:]))
		put("the checksum of the mark too", crc32.ChecksumIEEE(append(bytes.Clone(f[:4]), f[8:]...)))
		put("the least significant byte first", binary.LittleEndian.Uint32(f[4:]))
	}
}

// turn turns those of the 32 bits from bit at on that are set in mask, and are there; bits count in the order in which a checksum takes them, from the lowest of the first byte.
func turn(b []byte, at int, mask uint32) []byte {
	c := bytes.Clone(b)
	for i := range min(32, 8*len(b)-at) {
		c[(at+i)/8] ^= byte(mask>>i&1) << ((at + i) % 8)
	}
	return c
}

func TestBitsOfABodyTurned(t *testing.T) {
	r := source()
	for _, n := range []int{1, 2, 4, 5, 21, 64} {
		body := some(r, n)
		f := whole(body)
		for at := range 8 * n {
			for _, mask := range []uint32{1, 3, 0x80000001, 0xffffffff, 0xedb88321, 0x04c11db7, r.Uint32() | 1, r.Uint32() | 1} {
				x := append(bytes.Clone(f[:8]), turn(body, at, mask)...)
				wantBad(t, "bits turned", x, 0, api.ErrBad)
				if l, end, e := frame.All(append(bytes.Clone(f), x...)); e != api.ErrBad || end != len(f) || len(l) != 1 {
					t.Errorf("%x turned at %d: %d bodies, %d, %d", mask, at, len(l), end, e)
				}
			}
		}
	}
	body := some(r, api.MaxBody)
	f := whole(body)
	for at := range 8 * len(body) {
		x := append(bytes.Clone(f[:8]), turn(body, at, r.Uint32()|1)...)
		wantBad(t, "bits turned in the longest body", x, 0, api.ErrBad)
	}
}

func TestEveryBitOfAFrameCounts(t *testing.T) {
	for _, n := range []int{0, 1, 2, 9, 40} {
		f := append(whole(some(source(), n)), make([]byte, 300)...)
		for i := range 8 * (8 + n) {
			wantBad(t, "a bit turned", turn(f, i, 1), 0, api.ErrBad)
		}
	}
}
