package frame_test

import (
	"bytes"
	"encoding/binary"
	"hash/crc32"
	"testing"

	"drayage/api"
	"drayage/frame"
)

// row returns the frames of all bodies, one behind the other, and the offset after each of them.
func row(bodies [][]byte) ([]byte, []int) {
	var b []byte
	var ends []int
	for _, s := range bodies {
		b = append(b, whole(s)...)
		ends = append(ends, len(b))
	}
	return b, ends
}

func wantAll(t *testing.T, name string, b []byte, bodies [][]byte, at int, want api.Errno) {
	t.Helper()
	l, end, e := frame.All(b)
	if e != want || end != at || len(l) != len(bodies) {
		t.Fatalf("%s: %d bodies, %d, %d, want %d, %d, %d", name, len(l), end, e, len(bodies), at, want)
	}
	for i, s := range l {
		if !bytes.Equal(s, bodies[i]) {
			t.Errorf("%s: body %d is %x, want %x", name, i, s, bodies[i])
		}
	}
	stop := want
	if want == api.OK {
		stop = api.ErrEmpty
	}
	wantBad(t, name+": Get at the end", b, end, stop)
}

func several() [][]byte {
	r := source()
	return [][]byte{{}, []byte("ab"), {0}, {0, 0, 0, 0, 0, 0, 0, 0}, {}, some(r, 255), whole([]byte("inner")), some(r, 256), some(r, api.MaxBody), []byte("\xd7\xa6")}
}

func TestAllOfNothing(t *testing.T) {
	wantAll(t, "nil", nil, nil, 0, api.OK)
	wantAll(t, "no bytes", []byte{}, nil, 0, api.OK)
	wantAll(t, "a byte 0", []byte{0}, nil, 0, api.OK)
	wantAll(t, "zeros", make([]byte, 100), nil, 0, api.OK)
	wantAll(t, "a byte 0 in front", append([]byte{0}, whole(nil)...), nil, 0, api.OK)
	wantAll(t, "another byte", []byte{1}, nil, 0, api.ErrBad)
	wantAll(t, "other bytes", []byte("these are no frames"), nil, 0, api.ErrBad)
}

func TestAllOfTheExample(t *testing.T) {
	f := whole(nil)
	wantAll(t, "alone", f, [][]byte{{}}, 8, api.OK)
	wantAll(t, "with a byte 0", append(bytes.Clone(f), 0), [][]byte{{}}, 8, api.OK)
	f[7] ^= 1
	wantAll(t, "its last byte changed", f, nil, 0, api.ErrBad)
	wantAll(t, "its last byte changed, with a byte 0", append(bytes.Clone(f), 0), nil, 0, api.ErrBad)
}

func TestAllReadsBackInOrder(t *testing.T) {
	bodies := several()
	for n := range len(bodies) + 1 {
		b, _ := row(bodies[:n])
		wantAll(t, "alone", b, bodies[:n], len(b), api.OK)
		for _, after := range []string{"\x00", "\x00\x00\x00\x00", "\x00\xd7\xa6", "\x00" + string(whole([]byte("x")))} {
			wantAll(t, "zero behind", append(bytes.Clone(b), after...), bodies[:n], len(b), api.OK)
		}
		for _, after := range []string{"\x01", "\xd7", "\xd7\xa6", "\xa6\xd7", "\xd7\xa6\x00\x00\x41\xd9\x12\xfe", "some other bytes"} {
			wantAll(t, "other bytes behind", append(bytes.Clone(b), after...), bodies[:n], len(b), api.ErrBad)
		}
	}
}

func TestAllOfManyFrames(t *testing.T) {
	bodies := make([][]byte, 20000)
	b, _ := row(bodies)
	wantAll(t, "empty bodies", b, bodies, 8*len(bodies), api.OK)
}

func TestAllOfASequenceCutAnywhere(t *testing.T) {
	bodies := several()
	b, ends := row(bodies)
	done := 0
	for n := range len(b) {
		for ends[done] <= n {
			done++
		}
		at := 0
		if done > 0 {
			at = ends[done-1]
		}
		want := api.ErrBad
		if at == n {
			want = api.OK
		}
		wantAll(t, "cut", b[:n], bodies[:done], at, want)
		wantAll(t, "cut, without spare capacity", bytes.Clone(b[:n]), bodies[:done], at, want)
	}
}

func TestAllStopsAtDamage(t *testing.T) {
	bodies := several()[:6]
	b, ends := row(bodies)
	begin := 0
	for i, end := range ends {
		for at := begin; at < end; at++ {
			wantAll(t, "damaged", turn(b, 8*at, 1), bodies[:i], begin, api.ErrBad)
		}
		x := bytes.Clone(b)
		x[begin] = 0
		wantAll(t, "a byte 0 at a frame's beginning", x, bodies[:i], begin, api.OK)
		begin = end
	}
}

func TestArgumentsStayAsTheyAre(t *testing.T) {
	spare := []byte("body and more")
	before := bytes.Clone(spare)
	frame.Put(spare[:4])
	b := append(whole([]byte("ab")), whole([]byte("c"))...)
	after := bytes.Clone(b)
	frame.Get(b, 0)
	frame.Get(b[:10], 0)
	frame.All(b)
	frame.All(b[:10])
	if !bytes.Equal(spare, before) || !bytes.Equal(b, after) {
		t.Errorf("%q, %x", spare, b)
	}
}

// spoil overwrites all of a result, its spare capacity too.
func spoil(b []byte) {
	for i := range b[:cap(b)] {
		b[:cap(b)][i] = 'x'
	}
}

func TestResultsShareNoMemory(t *testing.T) {
	body := []byte("body")
	f, _ := frame.Put(body)
	g, _ := frame.Put(body)
	spoil(f)
	if string(body) != "body" || !bytes.Equal(g, whole(body)) {
		t.Errorf("Put: %q, %x", body, g)
	}
	bodies := [][]byte{[]byte("one"), {}, []byte("two"), []byte("three")}
	b, _ := row(bodies)
	s, _, _ := frame.Get(b, 0)
	other, _, _ := frame.Get(b, 0)
	l, _, _ := frame.All(b)
	m, _, _ := frame.All(b)
	spoil(s)
	spoil(l[0])
	spoil(l[1])
	l[2] = nil
	if again, _ := row(bodies); !bytes.Equal(b, again) {
		t.Errorf("a result shares memory with the argument: %x", b)
	}
	spoil(b)
	if string(other) != "one" || string(l[3]) != "three" {
		t.Errorf("%q, %q", other, l)
	}
	for i, x := range m {
		if !bytes.Equal(x, bodies[i]) {
			t.Errorf("All: body %d is %q", i, x)
		}
	}
}

// read does what the chapter says of Get, one reason after the other, with the library's checksum.
func read(b []byte, at int) ([]byte, int, api.Errno) {
	if at < 0 || at > len(b) {
		return nil, 0, api.ErrArg
	}
	b = b[at:]
	if len(b) == 0 || b[0] == 0 {
		return nil, 0, api.ErrEmpty
	}
	if len(b) < 8 || string(b[:2]) != "\xd7\xa6" {
		return nil, 0, api.ErrBad
	}
	n := int(binary.BigEndian.Uint16(b[2:]))
	if n > 2000 || n > len(b)-8 {
		return nil, 0, api.ErrBad
	}
	covered := append(bytes.Clone(b[2:4]), b[8:8+n]...)
	if crc32.ChecksumIEEE(covered) != binary.BigEndian.Uint32(b[4:]) {
		return nil, 0, api.ErrBad
	}
	return b[8 : 8+n], at + 8 + n, api.OK
}

// Get and All answer for any bytes and any offset; what they read can be put, and gives the bytes back.
func FuzzAnyBytes(f *testing.F) {
	b, _ := row(several()[:4])
	f.Add(b, 0)
	f.Add(b, 8)
	f.Add(b, -1)
	f.Add(append(bytes.Clone(b), 0, 0), len(b))
	f.Add(append(bytes.Clone(b), "junk"...), len(b)+5)
	f.Add([]byte("\xd7\xa6\x00\x00\x41\xd9\x12\xfe"), 0)
	f.Add(byTheWords(2001, make([]byte, 2001)), 0)
	f.Fuzz(func(t *testing.T, b []byte, at int) {
		body, next, e := frame.Get(b, at)
		if s, n, want := read(b, at); e != want || next != n || !bytes.Equal(body, s) {
			t.Fatalf("Get: %x, %d, %d, want %x, %d, %d", body, next, e, s, n, want)
		}
		l, end, e := frame.All(b)
		var again []byte
		for _, s := range l {
			x, put := frame.Put(s)
			if put != api.OK {
				t.Fatalf("what was read can't be put: %d", put)
			}
			again = append(again, x...)
		}
		if !bytes.Equal(again, b[:end]) {
			t.Fatalf("read %x, and wrote %x", b[:end], again)
		}
		_, _, stop := read(b, end)
		if stop != api.ErrEmpty && stop != api.ErrBad || e == api.OK != (stop == api.ErrEmpty) || e != api.OK && e != api.ErrBad {
			t.Fatalf("All ends at %d with %d, where Get returns %d", end, e, stop)
		}
	})
}

// Any bodies are read back, whatever follows their frames; a cut is found unless it lies between two frames.
func FuzzRoundTrip(f *testing.F) {
	f.Add([]byte(nil), []byte("ab"), []byte{0}, 3)
	f.Add([]byte("a"), []byte{}, []byte("junk"), 9)
	f.Add(make([]byte, api.MaxBody), make([]byte, api.MaxBody+1), []byte("\xd7\xa6"), 0)
	f.Fuzz(func(t *testing.T, a, b, after []byte, cut int) {
		var all []byte
		var bodies [][]byte
		var ends []int
		for _, s := range [][]byte{a, b} {
			x, e := frame.Put(s)
			if len(s) > api.MaxBody {
				if e != api.ErrLong || len(x) != 0 || frame.Size(len(s)) != 0 {
					t.Fatalf("a body of %d bytes: %d", len(s), e)
				}
				continue
			}
			if e != api.OK || !bytes.Equal(x, whole(s)) || len(x) != frame.Size(len(s)) {
				t.Fatalf("%x: %x, %d", s, x, e)
			}
			all, bodies = append(all, x...), append(bodies, s)
			ends = append(ends, len(all))
		}
		l, end, _ := frame.All(append(bytes.Clone(all), after...))
		if len(l) < len(bodies) || end < len(all) {
			t.Fatalf("%d of %d bodies, %d", len(l), len(bodies), end)
		}
		for i, s := range bodies {
			if !bytes.Equal(l[i], s) {
				t.Fatalf("body %d: %x, want %x", i, l[i], s)
			}
		}
		if cut = cut % (len(all) + 1); cut < 0 {
			cut = -cut
		}
		done, at := 0, 0
		for done < len(ends) && ends[done] <= cut {
			at = ends[done]
			done++
		}
		want := api.ErrBad
		if at == cut {
			want = api.OK
		}
		wantAll(t, "cut", all[:cut], bodies[:done], at, want)
	})
}
