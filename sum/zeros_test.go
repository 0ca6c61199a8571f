package sum_test

import (
	"bytes"
	"hash/crc32"
	"math"
	"testing"

	"drayage/sum"
)

// zeros processes n bytes 0 one by one, without a complement at the beginning or at the end.
func zeros(r uint32, n int) uint32 {
	return ^crc32.Update(^r, crc32.IEEETable, make([]byte, n))
}

// cycle is the number of bytes 0 after which every register is what it was: there are so many registers other than 0, and each of them comes in turn.
const cycle = 1<<32 - 1

func TestJoin(t *testing.T) {
	all := some(source(), 130)
	for i := range len(all) + 1 {
		a, b := all[:i], all[i:]
		if s, want := sum.Join(sum.Of(a), sum.Of(b), uint64(len(b))), sum.Of(all); s != want {
			t.Errorf("after %d bytes: %08x, want %08x", i, s, want)
		}
	}
	if s := sum.Join(sum.Of([]byte("1234")), sum.Of([]byte("56789")), 5); s != 0xcbf43926 {
		t.Errorf("the example: %08x", s)
	}
}

func TestJoinOfNothing(t *testing.T) {
	for _, x := range []struct{ a, b, want uint32 }{
		{0, 0, 0},
		{0x12345678, 0, 0x12345678},
		{0, 0x12345678, 0x12345678},
		{0x12345678, 0x12345678, 0},
		{0xffffffff, 0x0f0f0f0f, 0xf0f0f0f0},
		{0xcbf43926, 0x80000001, 0x4bf43927},
	} {
		if s := sum.Join(x.a, x.b, 0); s != x.want {
			t.Errorf("%08x, %08x: %08x, want %08x", x.a, x.b, s, x.want)
		}
	}
}

func TestJoinOfAnyNumbers(t *testing.T) {
	r := source()
	for n := range 260 {
		a, b := r.Uint32(), r.Uint32()
		if s, want := sum.Join(a, b, uint64(n)), zeros(a, n)^b; s != want {
			t.Errorf("%08x, %08x, %d: %08x, want %08x", a, b, n, s, want)
		}
	}
	for i := range 32 {
		if s, want := sum.Join(1<<i, 0, 1), zeros(1<<i, 1); s != want {
			t.Errorf("bit %d: %08x, want %08x", i, s, want)
		}
	}
	for _, n := range []int{1<<16 - 1, 1 << 16, 1<<20 + 1, 1<<24 + 12345} {
		if s, want := sum.Join(0xdeadbeef, 0x01020304, uint64(n)), zeros(0xdeadbeef, n)^0x01020304; s != want {
			t.Errorf("%d: %08x, want %08x", n, s, want)
		}
	}
}

func TestJoinOfNoRegister(t *testing.T) {
	for _, n := range []uint64{0, 1, 5, 1 << 40, math.MaxUint64} {
		if s := sum.Join(0, 0xcbf43926, n); s != 0xcbf43926 {
			t.Errorf("%d: %08x", n, s)
		}
	}
}

func TestJoinOfGreatLengths(t *testing.T) {
	for _, x := range []struct{ n, same uint64 }{
		{cycle, 0},
		{cycle + 1, 1},
		{cycle - 1 + cycle, cycle - 1},
		{1 << 33, 2},
		{1 << 62, 1 << 30},
		{1 << 63, 1 << 31},
		{1<<63 - 1, 1<<31 - 1},
		{math.MaxInt64 + 6, 1<<31 + 5},
		{math.MaxUint64, 0},
		{math.MaxUint64 - 1, cycle - 1},
		{math.MaxUint64 - cycle + 9, 9},
	} {
		for _, a := range []uint32{1, 0x80000000, 0xcbf43926, 0xffffffff} {
			if s, want := sum.Join(a, 5, x.n), sum.Join(a, 5, x.same); s != want {
				t.Errorf("%08x, %d: %08x, want %08x as for %d", a, x.n, s, want, x.same)
			}
		}
	}
}

func TestJoinDoubles(t *testing.T) {
	const a = 0xcbf43926
	for i := range 63 {
		half := sum.Join(a, 0, 1<<i)
		if s, want := sum.Join(a, 0, 1<<(i+1)), sum.Join(half, 0, 1<<i); s != want {
			t.Errorf("2^%d: %08x, want %08x", i+1, s, want)
		}
	}
}

func TestSumOfPiecesHangsOnTheirSumsAlone(t *testing.T) {
	r := source()
	a := some(r, 20)
	// 33 bits that leave no trace: a bit, and, behind it, what the register turns that bit into.
	other := turn(turn(a, 50, 1), 51, 0xedb88320)
	if bytes.Equal(a, other) || sum.Of(a) != sum.Of(other) {
		t.Fatalf("%08x and %08x", sum.Of(a), sum.Of(other))
	}
	b := some(r, 13)
	if sum.Of(append(bytes.Clone(a), b...)) != sum.Of(append(bytes.Clone(other), b...)) {
		t.Error("in front")
	}
	if sum.Of(append(bytes.Clone(b), a...)) != sum.Of(append(bytes.Clone(b), other...)) {
		t.Error("behind")
	}
}

func FuzzJoin(f *testing.F) {
	f.Add(uint32(1), uint32(2), uint32(3), uint64(4), uint64(5))
	f.Add(uint32(0), uint32(0), uint32(0), uint64(0), uint64(0))
	f.Add(uint32(math.MaxUint32), uint32(0), uint32(1), uint64(math.MaxUint64), uint64(math.MaxUint64))
	f.Fuzz(func(t *testing.T, a, b, c uint32, n, m uint64) {
		if s, want := sum.Join(a, b, n), sum.Join(a, 0, n)^b; s != want {
			t.Errorf("b is not XORed: %08x, want %08x", s, want)
		}
		if s, want := sum.Join(a^c, 0, n), sum.Join(a, 0, n)^sum.Join(c, 0, n); s != want {
			t.Errorf("registers do not add up: %08x, want %08x", s, want)
		}
		if s, want := sum.Join(a, b, n), sum.Join(a, b, n%cycle); s != want {
			t.Errorf("the cycle: %08x, want %08x", s, want)
		}
		n, m = n/2, m/2
		if s, want := sum.Join(sum.Join(a, b, n), c, m), sum.Join(a, sum.Join(b, c, m), n+m); s != want {
			t.Errorf("three pieces: %08x, want %08x", s, want)
		}
	})
}
