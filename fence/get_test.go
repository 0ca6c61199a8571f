package fence_test

import (
	"bytes"
	"encoding/binary"
	"testing"

	"drayage/api"
	"drayage/fence"
)

// readByTheWords reads a fence as the chapter says it, position by position.
func readByTheWords(b []byte) (api.Fence, bool) {
	ok := true
	take := func(size int) []byte {
		if size > len(b) { // too few: nothing fits any more
			b, ok = nil, false
			return make([]byte, size)
		}
		x := b[:size]
		b = b[size:]
		return x
	}
	f := api.Fence{Epoch: binary.BigEndian.Uint32(take(4))}
	n := int(take(1)[0])
	for i := 0; i < n && ok; i++ {
		k := api.Kept{Order: binary.BigEndian.Uint32(take(4)), Step: int(take(1)[0])}
		undo := take(1)[0]
		k.Undo, ok = undo == 1, ok && undo <= 1
		k.Code = int(take(1)[0])
		k.Asked = bytes.Clone(take(int(take(1)[0])))
		k.Reply = bytes.Clone(take(int(take(1)[0])))
		f.L = append(f.L, k)
	}
	if !ok || len(b) > 0 || !isValid(f) {
		return api.Fence{}, false
	}
	return f, true
}

// wantAsRead compares Get with the words of the chapter, and writes again what it returns.
func wantAsRead(t *testing.T, name string, b []byte) {
	t.Helper()
	want, ok := readByTheWords(b)
	if !ok {
		wantGet(t, name, b, api.Fence{}, api.ErrFence)
		return
	}
	wantGet(t, name, b, want, api.OK)
	wantPut(t, name, want, b, api.OK)
}

func wantNoFence(t *testing.T, name string, b []byte) {
	t.Helper()
	wantGet(t, name, b, api.Fence{}, api.ErrFence)
}

// small returns those of the ordinary fences whose bytes can all be changed one by one.
func small() []sample {
	var l []sample
	for _, x := range ordinary() {
		if len(x.f.L) < 20 {
			l = append(l, x)
		}
	}
	return l
}

func TestPut(t *testing.T) {
	for _, x := range []struct {
		name string
		f    api.Fence
		want string
	}{
		{"empty", api.Fence{}, "\x00\x00\x00\x00\x00"},
		{"empty, with an epoch", of(0x01020304), "\x01\x02\x03\x04\x00"},
		{"one", of(2, kept(0x05060708, 9, false, "ab", api.Done, "c")), "\x00\x00\x00\x02\x01\x05\x06\x07\x08\x09\x00\x01\x02ab\x01c"},
		{"one, undone", of(2, kept(0x05060708, 15, true, "", api.Refused, "")), "\x00\x00\x00\x02\x01\x05\x06\x07\x08\x0f\x01\x02\x00\x00"},
		{"the greatest numbers", of(greatest, kept(greatest, 15, true, "", api.Refused, "")), "\xff\xff\xff\xff\x01\xff\xff\xff\xff\x0f\x01\x02\x00\x00"},
		{"two", of(2, kept(1, 0, false, "a", api.Done, "r"), kept(1, 0, true, "", api.Done, "s")), "\x00\x00\x00\x02\x02\x00\x00\x00\x01\x00\x00\x01\x01a\x01r\x00\x00\x00\x01\x00\x01\x01\x00\x01s"},
		{"texts of zeros", of(2, kept(1, 0, false, "\x00", api.Done, "\x00\x00")), "\x00\x00\x00\x02\x01\x00\x00\x00\x01\x00\x00\x01\x01\x00\x02\x00\x00"},
		{"the longest texts", of(2, kept(1, 0, false, long(255), api.Done, long(255))), "\x00\x00\x00\x02\x01\x00\x00\x00\x01\x00\x00\x01\xff" + long(255) + "\xff" + long(255)},
	} {
		wantPut(t, x.name, x.f, []byte(x.want), api.OK)
		wantGet(t, x.name, []byte(x.want), x.f, api.OK)
	}
}

func TestThereAndBack(t *testing.T) {
	for _, x := range ordinary() {
		wantPut(t, x.name, x.f, bytesOf(x.f), api.OK)
		wantGet(t, x.name, bytesOf(x.f), x.f, api.OK)
		wantAsRead(t, x.name, bytesOf(x.f))
	}
	f := full(api.MaxKept, long(255), long(255))
	if b, err := fence.Put(f); err != api.OK || len(b) != 5+200*(7+2*256) || b[4] != 200 {
		t.Errorf("the longest encoding: %d bytes, %d", len(b), err)
	}
}

// What is not valid has no encoding: the bytes that Put would write of it are those of no fence, or of another one.
func TestGetOfBrokenFences(t *testing.T) {
	for _, x := range broken() {
		wantPut(t, x.name, x.f, nil, api.ErrArg)
		wantAsRead(t, x.name, bytesOf(x.f))
		if f, err := fence.Get(bytesOf(x.f)); err == api.OK && same(f, x.f) {
			t.Errorf("%s: Get returns %v", x.name, f)
		}
	}
}

func TestGetOfNothing(t *testing.T) {
	wantNoFence(t, "nil", nil)
	wantNoFence(t, "empty", []byte{})
	for size := range 300 {
		if size != 5 { // five are the empty fence
			wantNoFence(t, "zeros", make([]byte, size))
		}
		wantNoFence(t, "all bits", bytes.Repeat([]byte{255}, size))
		wantAsRead(t, "ones", bytes.Repeat([]byte{1}, size)) // sixteen are a fence
	}
}

func TestGetOfCuts(t *testing.T) {
	for _, x := range ordinary() {
		b := bytesOf(x.f)
		for size := 0; size < len(b); size += 1 + len(b)/5000 { // at every place but for the longest one
			wantNoFence(t, x.name+", cut", b[:size])
			if size < 600 {
				wantNoFence(t, x.name+", cut, without spare capacity", bytes.Clone(b[:size]))
				wantAsRead(t, x.name+", without its beginning", b[size+1:])
			}
		}
		wantNoFence(t, x.name+", without its last byte", b[:len(b)-1])
	}
}

func TestGetOfMoreBytes(t *testing.T) {
	for _, x := range ordinary() {
		b := bytesOf(x.f)
		for i := range 256 {
			wantNoFence(t, x.name+" and a byte", append(bytes.Clone(b), byte(i)))
		}
		for _, size := range []int{2, 3, 9, 255, 256, 1000} {
			wantNoFence(t, x.name+" and zeros", append(bytes.Clone(b), make([]byte, size)...))
		}
		wantNoFence(t, x.name+" twice", append(bytes.Clone(b), b...))
		// Its spare capacity does not count.
		wantGet(t, x.name+", with room behind it", append(bytes.Clone(b), 1, 2, 3)[:len(b)], x.f, api.OK)
	}
}

// Every byte of an encoding counts: with another one it is the encoding of another fence, or of none.
func TestGetOfOtherBytes(t *testing.T) {
	for _, x := range small() {
		b := bytesOf(x.f)
		for at := range b {
			for i := 0; i < 256; i += 1 + len(b)/100 { // with every value but for the long ones
				other := bytes.Clone(b)
				other[at] = byte(i)
				wantAsRead(t, x.name, other)
				if f, err := fence.Get(other); err == api.OK && same(f, x.f) != (other[at] == b[at]) {
					t.Errorf("%s: two encodings: %x, %x", x.name, b, other)
				}
			}
		}
	}
	b := bytesOf(full(api.MaxKept, "", ""))
	for at := range b {
		for _, i := range []byte{2, b[at] ^ 1, b[at] + 1} {
			other := bytes.Clone(b)
			other[at] = i
			wantAsRead(t, "a long one", other)
		}
	}
}

func TestGetOfByteMoreOrFewerWithin(t *testing.T) {
	for _, x := range small() {
		b := bytesOf(x.f)
		for at := range b {
			wantAsRead(t, x.name+" with a byte fewer", append(bytes.Clone(b[:at]), b[at+1:]...))
			for _, more := range []byte{0, 1, 2, 255} {
				wantAsRead(t, x.name+" with a byte more", append(append(bytes.Clone(b[:at]), more), b[at:]...))
			}
		}
	}
}

// The bytes of an element that have edges, with every value that they can have.
func TestGetOfEdges(t *testing.T) {
	const stepAt, undoAt, codeAt = 5 + 4, 5 + 5, 5 + 6
	f := of(2, kept(1, 3, true, "a", api.Done, "r"))
	for i := range 256 {
		for at, ok := range map[int]bool{stepAt: i < api.MaxSteps, undoAt: i <= 1, codeAt: i == 1 || i == 2} {
			b := bytesOf(f)
			b[at] = byte(i)
			_, err := fence.Get(b)
			if (err == api.OK) != ok {
				t.Errorf("the byte at %d is %d: %d", at, i, err)
			}
			wantAsRead(t, "an edge", b)
		}
	}
}

// The length of L has to fit, whatever stands behind it.
func TestGetOfOtherLengths(t *testing.T) {
	for _, n := range []int{0, 1, 2, 100, 199, 200, 201, 254, 255} {
		f := full(n, "a", "r")
		b := bytesOf(f)
		for length := range 256 {
			b[4] = byte(length)
			if length == n && n <= api.MaxKept {
				wantGet(t, "its length", b, f, api.OK)
			} else {
				wantNoFence(t, "another length", b)
			}
		}
	}
	wantNoFence(t, "256 elements, as their length in one byte says", bytesOf(full(256, "", "")))
}

// drawn returns a fence that is valid most of the time, with up to n elements.
func drawn(draw func(n int) int, n int) api.Fence {
	text := func() string { return long([]int{0, 0, 1, 3, 254, 255}[draw(6)]) }
	f := api.Fence{Epoch: uint32(draw(4))}
	k := api.Kept{Order: 1}
	for range draw(n + 1) {
		f.L = append(f.L, kept(k.Order, k.Step, k.Undo, text(), 1+draw(2), text()))
		switch {
		case draw(3) == 0:
			k.Order, k.Step, k.Undo = k.Order+uint32(1+draw(300)), draw(16), draw(2) == 1
		case draw(2) == 0 && !k.Undo:
			k.Undo = true
		case k.Step < 15:
			k.Step, k.Undo = k.Step+1, draw(2) == 1
		default:
			k.Order, k.Step, k.Undo = k.Order+1, 0, false
		}
	}
	if len(f.L) > 0 && draw(3) == 0 {
		k := &f.L[draw(len(f.L))]
		switch draw(5) {
		case 0:
			k.Order = uint32(draw(4))
		case 1:
			k.Step = draw(19) - 1
		case 2:
			k.Undo = !k.Undo
		case 3:
			k.Code = draw(5) - 1
		case 4:
			k.Reply = []byte(long(255 + draw(2)))
		}
	}
	return f
}

func TestDrawnFences(t *testing.T) {
	r := source()
	good := 0
	for range 5000 {
		f := drawn(r.Intn, 20)
		if isValid(f) {
			good++
		}
		wantAsSaid(t, "drawn", f, request(uint32(r.Intn(6)), uint32(1+r.Intn(3)), r.Intn(16), r.Intn(2) == 0, long(r.Intn(2))), r.Intn(4), "r")
		wantAsRead(t, "drawn", bytesOf(f))
	}
	if good < 2500 || good > 4500 {
		t.Errorf("%d of 5000 fences were valid: too few of one sort to tell", good)
	}
}

func FuzzGet(f *testing.F) {
	for _, x := range small() {
		f.Add(bytesOf(x.f))
	}
	f.Add([]byte("\x00\x00\x00\x02\x02\x00\x00\x00\x01\x00\x00\x01\x00\x00"))
	f.Add([]byte("\x00\x00\x00\x02\x01\x00\x00\x00\x01\x00\x02\x01\x00\x00"))
	f.Fuzz(func(t *testing.T, b []byte) {
		wantAsRead(t, "fuzz", b)
	})
}

// Fences by their bytes, so that the fuzzer can make long ones, with an element at the end that need not be valid.
func FuzzAsks(f *testing.F) {
	for _, x := range small() {
		f.Add(bytesOf(x.f), uint32(1), 0, false, 1, []byte("a"), []byte("r"), uint32(5), uint32(1), 0, true, []byte("a"), 1, []byte("r"))
	}
	f.Add(bytesOf(some()), uint32(8), 16, false, 0, []byte(nil), make([]byte, 256), uint32(5), uint32(2), 4, true, []byte("x"), 2, []byte("s"))
	f.Fuzz(func(t *testing.T, b []byte, order uint32, step int, undo bool, code int, asked, reply []byte, epoch, askedOrder uint32, askedStep int, askedUndo bool, data []byte, verdict int, answer []byte) {
		g, _ := readByTheWords(b)
		n := request(epoch, askedOrder, askedStep, askedUndo, string(data))
		wantAsSaid(t, "read", g, n, verdict, string(answer))
		// Numbers that are drawn apart rarely meet the keys that are there.
		for _, k := range g.L {
			n := request(g.Epoch+epoch%3, k.Order, k.Step, askedUndo, string(k.Asked))
			wantAsSaid(t, "near", g, n, verdict, string(answer))
			n.Step++
			wantAsSaid(t, "near", g, n, verdict, string(answer))
		}
		g.L = append(g.L, kept(order, step, undo, string(asked), code, string(reply)))
		wantAsSaid(t, "longer", g, n, verdict, string(answer))
	})
}
