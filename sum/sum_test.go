package sum_test

import (
	"bytes"
	"encoding/binary"
	"hash/crc32"
	"math/rand"
	"testing"

	"drayage/sum"
)

// source gives the same numbers in every run, so that a failure can be repeated.
func source() *rand.Rand { return rand.New(rand.NewSource(2)) }

func some(r *rand.Rand, n int) []byte {
	b := make([]byte, n)
	r.Read(b)
	return b
}

// closed returns b with its checksum behind it.
func closed(b []byte) []byte {
	return binary.LittleEndian.AppendUint32(bytes.Clone(b), crc32.ChecksumIEEE(b))
}

// byTheWords does what the chapter says of Of, word by word.
func byTheWords(b []byte) uint32 {
	r := uint32(4294967295)
	for _, c := range b {
		r ^= uint32(c)
		for i := 0; i < 8; i++ {
			if r%2 == 1 {
				r = r/2 ^ 0xedb88320
			} else {
				r = r / 2
			}
		}
	}
	return r ^ 0xffffffff
}

func TestOf(t *testing.T) {
	for _, x := range []struct {
		in   string
		want uint32
	}{
		{"", 0},
		{"\x00", 0xd202ef8d},
		{"\xff", 0xff000000},
		{"\xff\xff\xff\xff", 0xffffffff},
		{"\x00\x00\x00\x00", 0x2144df1c},
		{"a", 0xe8b7be43},
		{"abc", 0x352441c2},
		{"123456789", 0xcbf43926},
		{"The quick brown fox jumps over the lazy dog", 0x414fa339},
	} {
		if s := sum.Of([]byte(x.in)); s != x.want {
			t.Errorf("%q: %08x, want %08x", x.in, s, x.want)
		}
	}
	if s := sum.Of(nil); s != 0 {
		t.Errorf("nil: %08x, want 0", s)
	}
}

func TestOfEveryByte(t *testing.T) {
	for i := range 256 {
		b := []byte{byte(i)}
		if s, want := sum.Of(b), byTheWords(b); s != want {
			t.Errorf("%x: %08x, want %08x", b, s, want)
		}
	}
}

func TestOfManyLengths(t *testing.T) {
	r := source()
	for n := range 300 {
		b := some(r, n)
		s := sum.Of(b)
		if s != byTheWords(b) || s != crc32.ChecksumIEEE(b) {
			t.Errorf("%x: %08x, want %08x", b, s, byTheWords(b))
		}
	}
	b := some(r, 1<<20)
	if s, want := sum.Of(b), crc32.ChecksumIEEE(b); s != want {
		t.Errorf("%d bytes: %08x, want %08x", len(b), s, want)
	}
}

func TestMore(t *testing.T) {
	all := some(source(), 70)
	for i := range len(all) + 1 {
		if s, want := sum.More(sum.Of(all[:i]), all[i:]), sum.Of(all); s != want {
			t.Errorf("after %d bytes: %08x, want %08x", i, s, want)
		}
	}
	s := uint32(0)
	for i := range all {
		s = sum.More(s, all[i:i+1])
		if want := crc32.ChecksumIEEE(all[:i+1]); s != want {
			t.Errorf("byte %d: %08x, want %08x", i, s, want)
		}
	}
}

func TestMoreOfNothing(t *testing.T) {
	for _, s := range []uint32{0, 1, 0x80000000, 0xcbf43926, 0xffffffff} {
		if x := sum.More(s, nil); x != s {
			t.Errorf("nil behind %08x: %08x", s, x)
		}
		if x := sum.More(s, []byte{}); x != s {
			t.Errorf("no bytes behind %08x: %08x", s, x)
		}
	}
}

func TestMoreOfAnySum(t *testing.T) {
	r := source()
	for range 200 {
		s, b := r.Uint32(), some(r, r.Intn(40))
		if x, want := sum.More(s, b), crc32.Update(s, crc32.IEEETable, b); x != want {
			t.Errorf("%x behind %08x: %08x, want %08x", b, s, x, want)
		}
	}
}

func TestHolds(t *testing.T) {
	for _, x := range []struct {
		name string
		in   string
		want bool
	}{
		{"nothing", "", false},
		{"one byte", "\x00", false},
		{"two bytes", "\x00\x00", false},
		{"three bytes", "\x00\x00\x00", false},
		{"the sum of nothing", "\x00\x00\x00\x00", true},
		{"another sum of nothing", "\x01\x00\x00\x00", false},
		{"another sum of nothing, in its last byte", "\x00\x00\x00\x01", false},
		{"one byte and its sum", "a\x43\xbe\xb7\xe8", true},
		{"the example", "123456789\x26\x39\xf4\xcb", true},
		{"the most significant byte first", "123456789\xcb\xf4\x39\x26", false},
		{"a byte more", "123456789\x26\x39\xf4\xcb\x00", false},
		{"a byte less", "123456789\x26\x39\xf4", false},
		{"a byte in front", "0123456789\x26\x39\xf4\xcb", false},
		{"no byte in front", "23456789\x26\x39\xf4\xcb", false},
		{"the sum in front", "\x26\x39\xf4\xcb123456789", false},
		{"the sum of all but the complement", "123456789\xd9\xc6\x0b\x34", false},
		{"the sum of other bytes", "123456789\x43\xbe\xb7\xe8", false},
		{"no sum", "123456789\x00\x00\x00\x00", false},
		{"only ones", "\xff\xff\xff\xff", false},
		{"ones and their sum", "\xff\xff\xff\xff\xff\xff\xff\xff", true},
	} {
		if got := sum.Holds([]byte(x.in)); got != x.want {
			t.Errorf("%s: %t", x.name, got)
		}
	}
	if sum.Holds(nil) {
		t.Error("nil holds")
	}
}

func TestHoldsIsFalseBelowFourBytes(t *testing.T) {
	for i := range 256 {
		for _, b := range [][]byte{{byte(i)}, {byte(i), byte(i)}, {byte(i), byte(i), byte(i)}} {
			if sum.Holds(b) {
				t.Errorf("%x holds", b)
			}
		}
	}
	// The bytes behind the end of a slice are none of it, even if they would make it whole.
	whole := closed(nil)
	if sum.Holds(whole[:3]) {
		t.Error("the spare capacity was read")
	}
}

func TestHoldsOfManyLengths(t *testing.T) {
	r := source()
	for n := range 100 {
		b := closed(some(r, n))
		if !sum.Holds(b) {
			t.Errorf("%x does not hold", b)
		}
		for i := range 8 * len(b) {
			b[i/8] ^= 1 << (i % 8)
			if sum.Holds(b) {
				t.Errorf("%x holds, with bit %d turned", b, i)
			}
			b[i/8] ^= 1 << (i % 8)
		}
	}
}

func TestHoldsWithAnotherSum(t *testing.T) {
	r := source()
	for range 500 {
		b := some(r, r.Intn(30))
		s := crc32.ChecksumIEEE(b)
		other := r.Uint32()
		if got := sum.Holds(binary.LittleEndian.AppendUint32(b, other)); got != (s == other) {
			t.Errorf("%x with %08x: %t", b, other, got)
		}
	}
}

// turn turns those of the 32 bits from bit at on that are set in mask; bits count from the lowest of the first byte.
func turn(b []byte, at int, mask uint32) []byte {
	c := bytes.Clone(b)
	for i := range 32 {
		c[(at+i)/8] ^= byte(mask>>i&1) << ((at + i) % 8)
	}
	return c
}

func TestBitsTurnedWithin32(t *testing.T) {
	r := source()
	for _, n := range []int{4, 5, 8, 21} {
		b := some(r, n)
		whole := closed(b)
		for at := range 8*n - 31 {
			for _, mask := range []uint32{1, 0x80000000, 0x80000001, 0xffffffff, 0xedb88320, 0x04c11db7, r.Uint32() | 1, r.Uint32() | 1} {
				if sum.Of(turn(b, at, mask)) == sum.Of(b) {
					t.Errorf("%x: the same sum with %08x turned at %d", b, mask, at)
				}
			}
		}
		for at := range 8*len(whole) - 31 {
			if mask := r.Uint32() | 1; sum.Holds(turn(whole, at, mask)) {
				t.Errorf("%x: holds with %08x turned at %d", whole, mask, at)
			}
		}
	}
}

func TestArgumentsStayAsTheyAre(t *testing.T) {
	b := closed([]byte("some bytes"))
	before := bytes.Clone(b)
	for range 2 {
		sum.Of(b)
		sum.More(7, b)
		if !sum.Holds(b) {
			t.Error("does not hold")
		}
	}
	if !bytes.Equal(b, before) {
		t.Errorf("%x became %x", before, b)
	}
}

func FuzzPieces(f *testing.F) {
	f.Add([]byte("1234"), []byte("56789"))
	f.Add([]byte{}, []byte{})
	f.Fuzz(func(t *testing.T, a, b []byte) {
		all := append(bytes.Clone(a), b...)
		want := crc32.ChecksumIEEE(all)
		if s := sum.Of(all); s != want {
			t.Errorf("Of: %08x, want %08x", s, want)
		}
		if s := sum.More(sum.Of(a), b); s != want {
			t.Errorf("More: %08x, want %08x", s, want)
		}
		if s := sum.Join(sum.Of(a), sum.Of(b), uint64(len(b))); s != want {
			t.Errorf("Join: %08x, want %08x", s, want)
		}
	})
}

func FuzzHolds(f *testing.F) {
	f.Add([]byte("123456789\x26\x39\xf4\xcb"))
	f.Add([]byte("\x00\x00\x00"))
	f.Fuzz(func(t *testing.T, b []byte) {
		if !sum.Holds(closed(b)) {
			t.Errorf("%x and its sum do not hold", b)
		}
		want := len(b) >= 4 && bytes.Equal(closed(b[:len(b)-4]), b)
		if got := sum.Holds(b); got != want {
			t.Errorf("%x: %t", b, got)
		}
	})
}
