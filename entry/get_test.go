package entry_test

import (
	"bytes"
	"encoding/binary"
	"testing"

	"drayage/api"
	"drayage/entry"
)

// readByTheWords reads an entry as the chapter says it, position by position.
func readByTheWords(b []byte) (api.Entry, bool) {
	if len(b) < 13 {
		return api.Entry{}, false
	}
	e := api.Entry{Kind: int(b[0]), Lsn: binary.BigEndian.Uint64(b[1:9]), Epoch: binary.BigEndian.Uint32(b[9:13])}
	rest := b[13:]
	take := func(n int) []byte {
		if n > len(rest) { // too few: nothing fits any more
			rest, n = nil, 0
			e.Kind = 0
			return make([]byte, 8)
		}
		x := rest[:n]
		rest = rest[n:]
		return x
	}
	for _, x := range named[e.Kind] {
		switch x {
		case 'o':
			e.Order = binary.BigEndian.Uint32(take(4))
		case 'k':
			e.Key = take(int(take(1)[0]))
		case 'd':
			e.Data = take(int(take(1)[0]))
		case 's':
			e.Step = int(take(1)[0])
		case 'u':
			u := take(1)[0]
			if u > 1 {
				return api.Entry{}, false
			}
			e.Undo = u == 1
		case 't':
			e.Try = int(take(1)[0])
		case 'c':
			e.Code = int(take(1)[0])
		case 'm':
			e.Mark = binary.BigEndian.Uint64(take(8))
		}
	}
	if len(rest) > 0 || !valid(e) {
		return api.Entry{}, false
	}
	return e, true
}

// wantAsRead compares Get with the words of the chapter.
func wantAsRead(t *testing.T, name string, b []byte) {
	t.Helper()
	want, ok := readByTheWords(b)
	if !ok {
		wantNoEntry(t, name, b)
		return
	}
	e, err := entry.Get(b)
	if err != api.OK || !same(e, want) {
		t.Errorf("%s: Get of %x: %v, %d, want %v", name, b, e, err, want)
	}
	again, err := entry.Put(e)
	if err != api.OK || !bytes.Equal(again, b) {
		t.Errorf("%s: %x is read, and written as %x, %d", name, b, again, err)
	}
}

func TestGetOfNothing(t *testing.T) {
	wantNoEntry(t, "nil", nil)
	wantNoEntry(t, "empty", []byte{})
	for n := range 300 {
		wantNoEntry(t, "zeros", make([]byte, n))
	}
}

func TestGetOfCuts(t *testing.T) {
	longest := api.Entry{Kind: api.EntryOrder, Lsn: 1, Epoch: 1, Order: 1, Key: make([]byte, 32), Data: make([]byte, 200)}
	all := [][]byte{byTheWords(longest)}
	for _, x := range ordinary() {
		all = append(all, byTheWords(x.e))
	}
	for _, b := range all {
		for n := range b {
			wantNoEntry(t, "cut", b[:n])
			wantNoEntry(t, "cut, without spare capacity", bytes.Clone(b[:n]))
			wantAsRead(t, "without its beginning", b[n+1:])
		}
	}
}

func TestGetOfMoreBytes(t *testing.T) {
	for _, x := range ordinary() {
		b := byTheWords(x.e)
		for i := range 256 {
			wantNoEntry(t, x.name+" and a byte", append(bytes.Clone(b), byte(i)))
			wantAsRead(t, "a byte and "+x.name, append([]byte{byte(i)}, b...))
		}
		for n := 1; n < 300; n++ {
			wantNoEntry(t, x.name+" and zeros", append(bytes.Clone(b), make([]byte, n)...))
		}
		wantNoEntry(t, x.name+" twice", append(bytes.Clone(b), b...))
	}
}

func TestGetOfByteMoreOrFewerWithin(t *testing.T) {
	for _, x := range ordinary() {
		b := byTheWords(x.e)
		for at := range b {
			wantAsRead(t, x.name+" with a byte fewer", append(bytes.Clone(b[:at]), b[at+1:]...))
			for _, more := range []byte{0, 1, 2, 255} {
				wantAsRead(t, x.name+" with a byte more", append(append(bytes.Clone(b[:at]), more), b[at:]...))
			}
		}
	}
}

// Every byte of an encoding counts: with another one it is the encoding of another entry, or of none.
func TestGetOfOtherBytes(t *testing.T) {
	for _, x := range ordinary() {
		b := byTheWords(x.e)
		for at := range b {
			for i := range 256 {
				other := bytes.Clone(b)
				other[at] = byte(i)
				wantAsRead(t, x.name, other)
				if e, err := entry.Get(other); err == api.OK && same(e, x.e) != (other[at] == b[at]) {
					t.Errorf("%s: two encodings: %x, %x", x.name, b, other)
				}
			}
		}
	}
}

func TestGetOfKinds(t *testing.T) {
	for _, x := range ordinary() {
		b := byTheWords(x.e)
		for i := range 256 {
			b[0] = byte(i)
			if i < 1 || i > 7 {
				wantNoEntry(t, "another kind, with the fields of "+x.name, b)
			} else {
				wantAsRead(t, "another kind, with the fields of "+x.name, b)
			}
		}
	}
}

func TestGetOfUndo(t *testing.T) {
	for _, kind := range []int{api.EntryIntent, api.EntryResult} {
		b := byTheWords(ofKind(kind))
		for i := range 256 {
			b[13+4+1] = byte(i)
			if i > 1 {
				wantNoEntry(t, "an Undo byte", b)
			} else if e, err := entry.Get(b); err != api.OK || e.Undo != (i == 1) {
				t.Errorf("an Undo byte %d: %v, %d", i, e, err)
			}
		}
	}
}

func TestGetOfStepTryAndCode(t *testing.T) {
	for _, x := range []struct {
		name        string
		kind, at    int
		least, most int
	}{
		{"a step of an intent", api.EntryIntent, 17, 0, 15},
		{"a try of an intent", api.EntryIntent, 19, 1, 255},
		{"a step of a result", api.EntryResult, 17, 0, 15},
		{"a try of a result", api.EntryResult, 19, 1, 255},
		{"a code of a result", api.EntryResult, 20, 1, 3},
		{"a code of an end", api.EntryEnd, 17, 1, 3},
		{"a code of a mode", api.EntryMode, 13, 1, 2},
	} {
		b := byTheWords(ofKind(x.kind))
		for i := range 256 {
			b[x.at] = byte(i)
			_, err := entry.Get(b)
			if want := x.least <= i && i <= x.most; (err == api.OK) != want {
				t.Errorf("%s, %d: %d", x.name, i, err)
			}
			wantAsRead(t, x.name, b)
		}
	}
}

// order writes an EntryOrder whose texts have the lengths that they claim, or others.
func order(claimKey, key, claimData, data int) []byte {
	b := []byte{2, 0, 0, 0, 0, 0, 0, 0, 1, 0, 0, 0, 1, 0, 0, 0, 1}
	b = append(append(b, byte(claimKey)), bytes.Repeat([]byte{'k'}, key)...)
	return append(append(b, byte(claimData)), bytes.Repeat([]byte{'d'}, data)...)
}

func TestGetOfTexts(t *testing.T) {
	for key := range 256 {
		for _, data := range []int{0, 1, 50, 199, 200, 201, 254, 255} {
			b := order(key, key, data, data)
			e, err := entry.Get(b)
			if good := 1 <= key && key <= 32 && data <= 200; !good {
				wantNoEntry(t, "texts out of bounds", b)
			} else if err != api.OK || len(e.Key) != key || len(e.Data) != data {
				t.Errorf("%d and %d bytes: %d, %d, %d", key, data, len(e.Key), len(e.Data), err)
			}
		}
	}
	for claim := range 256 {
		wantAsRead(t, "a key of another length", order(claim, 5, 9, 9))
		wantAsRead(t, "data of another length", order(5, 5, claim, 9))
		if claim != 9 {
			wantNoEntry(t, "data of another length", order(5, 5, claim, 9))
		}
	}
}

func TestGetOfMuch(t *testing.T) {
	for kind := range 10 {
		b := make([]byte, 1<<20)
		b[0], b[8], b[12], b[16], b[17], b[18], b[19] = byte(kind), 1, 1, 1, 1, 1, 1
		wantNoEntry(t, "far too many bytes", b)
		wantNoEntry(t, "far too many bytes", bytes.Repeat([]byte{byte(kind)}, 1<<20))
	}
}

func spoil(b []byte) {
	b = b[:cap(b)]
	for i := range b {
		b[i] ^= 0xff
	}
}

func TestGetSharesNoMemory(t *testing.T) {
	want := ofKind(api.EntryOrder)
	b := byTheWords(want)
	one, _ := entry.Get(b)
	two, _ := entry.Get(b)
	if !bytes.Equal(b, byTheWords(want)) {
		t.Errorf("the argument was changed: %x", b)
	}
	spoil(b)
	if !same(one, want) || !same(two, want) {
		t.Errorf("a result shares memory with the argument: %v, %v", one, two)
	}
	spoil(one.Key)
	if !bytes.Equal(one.Data, want.Data) || !same(two, want) {
		t.Errorf("results share memory: %v, %v", one, two)
	}
	spoil(one.Data)
	if !same(two, want) {
		t.Errorf("results share memory: %v", two)
	}
}

func TestGetOfAnyBytes(t *testing.T) {
	r := source()
	for range 20000 {
		b := byTheWords(anyEntry(r))
		for range r.Intn(3) {
			b[r.Intn(len(b))] = byte(r.Intn(256) >> r.Intn(9))
		}
		wantAsRead(t, "any", b[:len(b)-r.Intn(5)/4])
	}
}

// Whatever the bytes are: what is read from them is written as the same bytes.
func FuzzGet(f *testing.F) {
	for _, x := range ordinary() {
		f.Add(byTheWords(x.e))
	}
	f.Add([]byte(nil))
	f.Add(order(33, 33, 0, 0))
	f.Add(order(1, 1, 201, 201))
	f.Add([]byte("\x03\x00\x00\x00\x00\x00\x00\x00\x01\x00\x00\x00\x01\x00\x00\x00\x01\x00\x02\x01"))
	f.Fuzz(func(t *testing.T, b []byte) {
		before := bytes.Clone(b)
		wantAsRead(t, "fuzz", b)
		if !bytes.Equal(b, before) {
			t.Errorf("the argument was changed: %x, %x", before, b)
		}
	})
}
