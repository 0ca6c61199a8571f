package note_test

import (
	"bytes"
	"encoding/binary"
	"testing"

	"drayage/api"
	"drayage/note"
)

// readByTheWords reads a note as the chapter says it, position by position.
func readByTheWords(b []byte) (api.Note, bool) {
	if len(b) == 0 {
		return api.Note{}, false
	}
	n := api.Note{Kind: int(b[0])}
	rest := b[1:]
	take := func(size int) []byte {
		if size > len(rest) { // too few: nothing fits any more
			rest, size = nil, 0
			n.Kind = 0
			return make([]byte, 8)
		}
		x := rest[:size]
		rest = rest[size:]
		return x
	}
	for _, x := range named[n.Kind] {
		switch x {
		case 'E':
			n.Epoch = binary.BigEndian.Uint32(take(4))
		case 'P':
			n.Old = binary.BigEndian.Uint32(take(4))
		case 'L':
			n.Lsn = binary.BigEndian.Uint64(take(8))
		case 'T':
			n.Tick = binary.BigEndian.Uint64(take(8))
		case 'O':
			n.Order = binary.BigEndian.Uint32(take(4))
		case 'S':
			n.Step = int(take(1)[0])
		case 'U':
			u := take(1)[0]
			if u > 1 {
				return api.Note{}, false
			}
			n.Undo = u == 1
		case 'C':
			n.Code = int(take(1)[0])
		case 'K':
			n.Key = take(int(take(1)[0]))
		case 'D':
			n.Data = take(int(take(1)[0]))
		}
	}
	if len(rest) > 0 || !valid(n) {
		return api.Note{}, false
	}
	return n, true
}

// wantAsRead compares Get with the words of the chapter.
func wantAsRead(t *testing.T, name string, b []byte) {
	t.Helper()
	want, ok := readByTheWords(b)
	if !ok {
		wantNoNote(t, name, b)
		return
	}
	n, err := note.Get(b)
	if err != api.OK || !same(n, want) {
		t.Errorf("%s: Get of %x: %v, %d, want %v", name, b, n, err, want)
	}
	again, err := note.Put(n)
	if err != api.OK || !bytes.Equal(again, b) {
		t.Errorf("%s: %x is read, and written as %x, %d", name, b, again, err)
	}
}

func TestGetOfNothing(t *testing.T) {
	wantNoNote(t, "nil", nil)
	wantNoNote(t, "empty", []byte{})
	for size := range 300 {
		wantNoNote(t, "zeros", make([]byte, size))
	}
}

func TestGetOfCuts(t *testing.T) {
	all := [][]byte{
		byTheWords(api.Note{Kind: 10, Key: make([]byte, 32), Data: make([]byte, 255)}),
		byTheWords(api.Note{Kind: 13, Key: make([]byte, 32), Data: make([]byte, 255)}),
	}
	for _, x := range ordinary() {
		all = append(all, []byte(x.s))
	}
	for _, b := range all {
		for size := range b {
			wantNoNote(t, "cut", b[:size])
			wantNoNote(t, "cut, without spare capacity", bytes.Clone(b[:size]))
			wantAsRead(t, "without its beginning", b[size+1:])
		}
	}
}

func TestGetOfMoreBytes(t *testing.T) {
	for _, x := range ordinary() {
		for i := range 256 {
			wantNoNote(t, x.name+" and a byte", append([]byte(x.s), byte(i)))
			wantAsRead(t, "a byte and "+x.name, append([]byte{byte(i)}, x.s...))
		}
		for size := 1; size < 300; size++ {
			wantNoNote(t, x.name+" and zeros", append([]byte(x.s), make([]byte, size)...))
		}
		wantNoNote(t, x.name+" twice", []byte(x.s+x.s))
	}
}

func TestGetOfByteMoreOrFewerWithin(t *testing.T) {
	for _, x := range ordinary() {
		for at := range len(x.s) {
			wantAsRead(t, x.name+" with a byte fewer", []byte(x.s[:at]+x.s[at+1:]))
			for _, more := range []string{"\x00", "\x01", "\x02", "\xff"} {
				wantAsRead(t, x.name+" with a byte more", []byte(x.s[:at]+more+x.s[at:]))
			}
		}
	}
}

// Every byte of an encoding counts: with another one it is the encoding of another note, or of none.
func TestGetOfOtherBytes(t *testing.T) {
	for _, x := range ordinary() {
		for at := range len(x.s) {
			for i := range 256 {
				other := []byte(x.s)
				other[at] = byte(i)
				wantAsRead(t, x.name, other)
				if n, err := note.Get(other); err == api.OK && same(n, x.n) != (other[at] == x.s[at]) {
					t.Errorf("%s: two encodings: %x, %x", x.name, x.s, other)
				}
			}
		}
	}
}

func TestGetOfKinds(t *testing.T) {
	for _, x := range ordinary() {
		b := []byte(x.s)
		for i := range 256 {
			b[0] = byte(i)
			if i < 1 || i > 13 {
				wantNoNote(t, "another kind, with the fields of "+x.name, b)
				wantNoNote(t, "another kind, without fields", b[:1])
			} else {
				wantAsRead(t, "another kind, with the fields of "+x.name, b)
			}
		}
	}
}

func TestGetOfUndo(t *testing.T) {
	for _, kind := range []int{api.NoteStep, api.NoteDone, api.NoteFence} {
		b := byTheWords(ofKind(kind))
		for i := range 256 {
			b[1+4+4+1] = byte(i)
			if i > 1 {
				wantNoNote(t, "an Undo byte", b)
			} else if n, err := note.Get(b); err != api.OK || n.Undo != (i == 1) {
				t.Errorf("kind %d, an Undo byte %d: %v, %d", kind, i, n, err)
			}
		}
	}
}

func TestGetOfStep(t *testing.T) {
	for _, kind := range []int{api.NoteStep, api.NoteDone, api.NoteFence} {
		b := byTheWords(ofKind(kind))
		for i := range 256 {
			b[1+4+4] = byte(i)
			if i >= api.MaxSteps {
				wantNoNote(t, "a Step byte", b)
			} else if n, err := note.Get(b); err != api.OK || n.Step != i {
				t.Errorf("kind %d, a Step byte %d: %v, %d", kind, i, n, err)
			}
		}
	}
}

func TestGetOfCode(t *testing.T) {
	for _, x := range []struct{ kind, at int }{
		{api.NoteWant, 1 + 4},
		{api.NoteLease, 1 + 4 + 8},
		{api.NoteNo, 1 + 4},
		{api.NoteDone, 1 + 4 + 4 + 1 + 1},
		{api.NoteReply, 1 + 4},
	} {
		b := byTheWords(ofKind(x.kind))
		for i := range 256 {
			b[x.at] = byte(i)
			if n, err := note.Get(b); err != api.OK || n.Code != i {
				t.Errorf("kind %d, a Code byte %d: %v, %d", x.kind, i, n, err)
			}
		}
	}
}

// texts writes a note, with zeros before its texts, whose texts have the lengths that they claim, or others.
func texts(kind, claimKey, key, claimData, data int) []byte {
	b := append([]byte{byte(kind)}, make([]byte, map[int]int{1: 16, 7: 10, 8: 11, 13: 5}[kind])...)
	for _, x := range named[kind] {
		switch x {
		case 'K':
			b = append(append(b, byte(claimKey)), bytes.Repeat([]byte{'k'}, key)...)
		case 'D':
			b = append(append(b, byte(claimData)), bytes.Repeat([]byte{'d'}, data)...)
		}
	}
	return b
}

func TestGetOfKeys(t *testing.T) {
	for _, kind := range []int{api.NoteSubmit, api.NoteCancel, api.NoteQuery, api.NoteReply} {
		for size := range 256 {
			b := texts(kind, size, size, 9, 9)
			n, err := note.Get(b)
			if size > 32 || size == 0 && kind != api.NoteReply {
				wantNoNote(t, "a key out of bounds", b)
			} else if err != api.OK || !bytes.Equal(n.Key, bytes.Repeat([]byte{'k'}, size)) {
				t.Errorf("kind %d, a key of %d bytes: %q, %d", kind, size, n.Key, err)
			}
			wantAsRead(t, "a key of another length", texts(kind, size, 5, 9, 9))
		}
	}
	for _, kind := range []int{api.NoteCancel, api.NoteQuery} {
		for claim := range 256 {
			if claim != 5 {
				wantNoNote(t, "a key of another length", texts(kind, claim, 5, 0, 0))
			}
		}
	}
}

func TestGetOfData(t *testing.T) {
	for _, kind := range []int{api.NoteShip, api.NoteStep, api.NoteDone, api.NoteSubmit, api.NoteReply} {
		for size := range 256 {
			n, err := note.Get(texts(kind, 3, 3, size, size))
			if err != api.OK || !bytes.Equal(n.Data, bytes.Repeat([]byte{'d'}, size)) {
				t.Errorf("kind %d, data of %d bytes: %q, %d", kind, size, n.Data, err)
			}
			if size != 9 {
				wantNoNote(t, "data of another length", texts(kind, 3, 3, size, 9))
			}
		}
		wantNoNote(t, "too much data", texts(kind, 3, 3, 255, 256))
		wantNoNote(t, "far too much data", texts(kind, 3, 3, 256, 256))
	}
}

func TestGetOfMuch(t *testing.T) {
	for kind := range 16 {
		b := make([]byte, 1<<20)
		b[0], b[1], b[2] = byte(kind), 1, 1
		wantNoNote(t, "far too many bytes", b)
		wantNoNote(t, "far too many bytes", bytes.Repeat([]byte{byte(kind)}, 1<<20))
	}
}

func spoil(b []byte) {
	b = b[:cap(b)]
	for i := range b {
		b[i] ^= 0xff
	}
}

func TestGetSharesNoMemory(t *testing.T) {
	for _, kind := range []int{api.NoteSubmit, api.NoteReply} {
		want := ofKind(kind)
		b := byTheWords(want)
		one, _ := note.Get(b)
		two, _ := note.Get(b)
		if !bytes.Equal(b, byTheWords(want)) {
			t.Errorf("the argument was changed: %x", b)
		}
		spoil(b)
		if !same(one, want) || !same(two, want) {
			t.Errorf("a result shares memory with the argument: %v, %v", one, two)
		}
		spoil(one.Key)
		if !bytes.Equal(one.Data, want.Data) || !same(two, want) {
			t.Errorf("results share memory: %v, %v", one, two)
		}
		spoil(one.Data)
		if !same(two, want) {
			t.Errorf("results share memory: %v", two)
		}
	}
}

func TestGetOfAnyBytes(t *testing.T) {
	r := source()
	for range 20000 {
		b := byTheWords(anyNote(r))
		for range r.Intn(3) {
			b[r.Intn(len(b))] = byte(r.Intn(256) >> r.Intn(9))
		}
		wantAsRead(t, "any", b[:len(b)-r.Intn(5)/4])
	}
}

// Whatever the bytes are: what is read from them is written as the same bytes.
func FuzzGet(f *testing.F) {
	for _, x := range ordinary() {
		f.Add([]byte(x.s))
	}
	f.Add([]byte(nil))
	f.Add(texts(13, 33, 33, 0, 0))
	f.Add(texts(10, 1, 1, 255, 255))
	f.Add([]byte("\x09\x00\x00\x00\x00\x00\x00\x00\x00\x00\x02"))
	f.Fuzz(func(t *testing.T, b []byte) {
		before := bytes.Clone(b)
		wantAsRead(t, "fuzz", b)
		if !bytes.Equal(b, before) {
			t.Errorf("the argument was changed: %x, %x", before, b)
		}
	})
}
