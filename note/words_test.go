package note_test

import (
	"bytes"
	"encoding/binary"
	"math/rand"
	"strings"
	"testing"

	"drayage/api"
	"drayage/note"
)

// source gives the same numbers in every run, so that a failure can be repeated.
func source() *rand.Rand { return rand.New(rand.NewSource(5)) }

const allLetters = "EPLTOSUCKD"

// named are the fields of the kinds, as the chapter's table has them.
var named = map[int]string{
	1:  "EPLD",
	2:  "EL",
	3:  "EL",
	4:  "EC",
	5:  "ETC",
	6:  "EC",
	7:  "EOSUD",
	8:  "EOSUCD",
	9:  "EOSU",
	10: "KD",
	11: "K",
	12: "K",
	13: "OCKD",
}

// kindsWith returns the kinds that have a field, in their order.
func kindsWith(letter rune) []int {
	var l []int
	for kind := 1; kind <= 13; kind++ {
		if strings.ContainsRune(named[kind], letter) {
			l = append(l, kind)
		}
	}
	return l
}

func same(a, b api.Note) bool {
	return a.Kind == b.Kind && a.Epoch == b.Epoch && a.Old == b.Old && a.Lsn == b.Lsn && a.Tick == b.Tick && a.Order == b.Order &&
		a.Step == b.Step && a.Undo == b.Undo && a.Code == b.Code && bytes.Equal(a.Key, b.Key) && bytes.Equal(a.Data, b.Data)
}

// isZero tells whether there is nothing at all in a note.
func isZero(n api.Note) bool { return same(n, api.Note{}) }

// pick sets that field of n, which has a letter, as it is in from.
func pick(n *api.Note, from api.Note, letter rune) {
	switch letter {
	case 'E':
		n.Epoch = from.Epoch
	case 'P':
		n.Old = from.Old
	case 'L':
		n.Lsn = from.Lsn
	case 'T':
		n.Tick = from.Tick
	case 'O':
		n.Order = from.Order
	case 'S':
		n.Step = from.Step
	case 'U':
		n.Undo = from.Undo
	case 'C':
		n.Code = from.Code
	case 'K':
		n.Key = from.Key
	case 'D':
		n.Data = from.Data
	}
}

// valid says what the chapter says.
func valid(n api.Note) bool {
	letters, known := named[n.Kind]
	bare := api.Note{Kind: n.Kind}
	for _, x := range letters {
		pick(&bare, n, x)
	}
	if !known || !same(bare, n) {
		return false
	}
	if n.Step < 0 || n.Step > 15 || n.Code < 0 || n.Code > 255 || len(n.Key) > 32 || len(n.Data) > 255 {
		return false
	}
	return n.Kind < 10 || n.Kind > 12 || len(n.Key) > 0
}

// byTheWords writes a note as the chapter says it, whether its fields are within their bounds or not.
func byTheWords(n api.Note) []byte {
	b := []byte{byte(n.Kind)}
	for _, x := range named[n.Kind] {
		switch x {
		case 'E':
			b = binary.BigEndian.AppendUint32(b, n.Epoch)
		case 'P':
			b = binary.BigEndian.AppendUint32(b, n.Old)
		case 'L':
			b = binary.BigEndian.AppendUint64(b, n.Lsn)
		case 'T':
			b = binary.BigEndian.AppendUint64(b, n.Tick)
		case 'O':
			b = binary.BigEndian.AppendUint32(b, n.Order)
		case 'S':
			b = append(b, byte(n.Step))
		case 'U':
			b = append(b, map[bool]byte{true: 1}[n.Undo])
		case 'C':
			b = append(b, byte(n.Code))
		case 'K':
			b = append(append(b, byte(len(n.Key))), n.Key...)
		case 'D':
			b = append(append(b, byte(len(n.Data))), n.Data...)
		}
	}
	return b
}

type sample struct {
	name string
	n    api.Note
	s    string
}

// ordinary returns valid notes of all kinds, each with its bytes.
func ordinary() []sample {
	return []sample{
		{"ship", api.Note{Kind: 1, Epoch: 0x01020304, Old: 0x05060708, Lsn: 0x1112131415161718, Data: []byte("an entry")}, "\x01\x01\x02\x03\x04\x05\x06\x07\x08\x11\x12\x13\x14\x15\x16\x17\x18\x08an entry"},
		{"ship of nothing", api.Note{Kind: 1, Epoch: 3}, "\x01\x00\x00\x00\x03\x00\x00\x00\x00\x00\x00\x00\x00\x00\x00\x00\x00\x00"},
		{"ack", api.Note{Kind: 2, Epoch: 0x01020304, Lsn: 0x1112131415161718}, "\x02\x01\x02\x03\x04\x11\x12\x13\x14\x15\x16\x17\x18"},
		{"back", api.Note{Kind: 3, Epoch: 0x01020304, Lsn: 0x1112131415161718}, "\x03\x01\x02\x03\x04\x11\x12\x13\x14\x15\x16\x17\x18"},
		{"want", api.Note{Kind: 4, Epoch: 0x01020304, Code: 2}, "\x04\x01\x02\x03\x04\x02"},
		{"lease", api.Note{Kind: 5, Epoch: 0x01020304, Tick: 0x2122232425262728, Code: 1}, "\x05\x01\x02\x03\x04\x21\x22\x23\x24\x25\x26\x27\x28\x01"},
		{"no", api.Note{Kind: 6, Epoch: 0x01020304, Code: 200}, "\x06\x01\x02\x03\x04\xc8"},
		{"step", api.Note{Kind: 7, Epoch: 0x01020304, Order: 0x31323334, Step: 5, Data: []byte("work")}, "\x07\x01\x02\x03\x04\x31\x32\x33\x34\x05\x00\x04work"},
		{"step to undo", api.Note{Kind: 7, Epoch: 0x01020304, Order: 0x31323334, Step: 5, Undo: true}, "\x07\x01\x02\x03\x04\x31\x32\x33\x34\x05\x01\x00"},
		{"done", api.Note{Kind: 8, Epoch: 0x01020304, Order: 0x31323334, Step: 6, Code: 3, Data: []byte("effect")}, "\x08\x01\x02\x03\x04\x31\x32\x33\x34\x06\x00\x03\x06effect"},
		{"done undoing", api.Note{Kind: 8, Epoch: 0x01020304, Order: 0x31323334, Step: 6, Undo: true, Code: 1}, "\x08\x01\x02\x03\x04\x31\x32\x33\x34\x06\x01\x01\x00"},
		{"fence", api.Note{Kind: 9, Epoch: 0x01020304, Order: 0x31323334, Step: 7}, "\x09\x01\x02\x03\x04\x31\x32\x33\x34\x07\x00"},
		{"fence of an undo", api.Note{Kind: 9, Epoch: 0x01020304, Order: 0x31323334, Step: 7, Undo: true}, "\x09\x01\x02\x03\x04\x31\x32\x33\x34\x07\x01"},
		{"submit", api.Note{Kind: 10, Key: []byte("key"), Data: []byte("an order")}, "\x0a\x03key\x08an order"},
		{"submit without data", api.Note{Kind: 10, Key: []byte{0}}, "\x0a\x01\x00\x00"},
		{"cancel", api.Note{Kind: 11, Key: []byte("key")}, "\x0b\x03key"},
		{"query", api.Note{Kind: 12, Key: []byte("key")}, "\x0c\x03key"},
		{"reply", api.Note{Kind: 13, Order: 0x31323334, Code: 9, Key: []byte("key"), Data: []byte("answer")}, "\x0d\x31\x32\x33\x34\x09\x03key\x06answer"},
		{"reply without texts", api.Note{Kind: 13, Order: 1}, "\x0d\x00\x00\x00\x01\x00\x00\x00"},
	}
}

// ofKind returns one ordinary note of a kind.
func ofKind(kind int) api.Note {
	for _, x := range ordinary() {
		if x.n.Kind == kind {
			return x.n
		}
	}
	panic("no such kind")
}

// anyNote returns a note whose fields are often at the edges, and often not valid.
func anyNote(r *rand.Rand) api.Note {
	one := func(l ...int) int { return l[r.Intn(len(l))] }
	n := api.Note{Kind: 1 + r.Intn(13)}
	full := api.Note{
		Epoch: uint32(one(0, 1, 1<<31)), Old: uint32(one(0, 1, 1<<31)), Lsn: uint64(one(0, 1, 1<<40)), Tick: uint64(one(0, 1, 1<<40)),
		Order: uint32(one(0, 1, 1<<31)), Step: one(0, 1, 15), Undo: r.Intn(2) == 0, Code: one(0, 1, 255),
		Key: make([]byte, one(1, 2, 32)), Data: make([]byte, one(0, 1, 255)),
	}
	r.Read(full.Key)
	r.Read(full.Data)
	for _, x := range named[n.Kind] {
		pick(&n, full, x)
	}
	if r.Intn(2) == 0 { // one thing is wrong, or at least another one
		full = api.Note{
			Epoch: uint32(one(0, 1)), Old: uint32(one(0, 1)), Lsn: uint64(one(0, 1)), Tick: uint64(one(0, 1)),
			Order: uint32(one(0, 1)), Step: one(-1, 0, 16, 256), Undo: r.Intn(2) == 0, Code: one(-1, 0, 255, 256, 257),
			Key: make([]byte, one(0, 1, 33)), Data: make([]byte, one(0, 1, 256)),
		}
		pick(&n, full, rune(allLetters[r.Intn(len(allLetters))]))
	}
	return n
}

func wantValid(t *testing.T, name string, n api.Note) {
	t.Helper()
	if err := note.Check(n); err != api.OK {
		t.Errorf("%s: Check of %v: %d, want OK", name, n, err)
	}
	want := byTheWords(n)
	b, err := note.Put(n)
	if err != api.OK || !bytes.Equal(b, want) {
		t.Errorf("%s: Put %x, %d, want %x", name, b, err, want)
	}
	got, err := note.Get(want)
	if err != api.OK || !same(got, n) {
		t.Errorf("%s: Get %v, %d, want %v", name, got, err, n)
	}
}

func wantInvalid(t *testing.T, name string, n api.Note) {
	t.Helper()
	if err := note.Check(n); err != api.ErrNote {
		t.Errorf("%s: Check of %v: %d, want ErrNote", name, n, err)
	}
	if b, err := note.Put(n); err != api.ErrNote || len(b) != 0 {
		t.Errorf("%s: Put of %v: %x, %d, want nothing and ErrNote", name, n, b, err)
	}
}

// wantAsSaid expects of Check and Put what the chapter says about n.
func wantAsSaid(t *testing.T, name string, n api.Note) {
	t.Helper()
	if valid(n) {
		wantValid(t, name, n)
	} else {
		wantInvalid(t, name, n)
	}
}

func wantNoNote(t *testing.T, name string, b []byte) {
	t.Helper()
	if n, err := note.Get(b); err != api.ErrNote || !isZero(n) {
		t.Errorf("%s: Get of %x: %v, %d, want nothing and ErrNote", name, b, n, err)
	}
}
