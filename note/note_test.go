package note_test

import (
	"bytes"
	"math"
	"strings"
	"testing"

	"drayage/api"
	"drayage/note"
)

func TestExamples(t *testing.T) {
	for _, x := range []sample{
		{"ack", api.Note{Kind: api.NoteAck, Epoch: 2, Lsn: 258}, "\x02\x00\x00\x00\x02\x00\x00\x00\x00\x00\x00\x01\x02"},
		{"query", api.Note{Kind: api.NoteQuery, Key: []byte("ab")}, "\x0c\x02ab"},
	} {
		wantSample(t, x)
	}
}

func wantSample(t *testing.T, x sample) {
	t.Helper()
	if err := note.Check(x.n); err != api.OK {
		t.Errorf("%s: Check %d", x.name, err)
	}
	if b, err := note.Put(x.n); err != api.OK || string(b) != x.s {
		t.Errorf("%s: Put %x, %d, want %x", x.name, b, err, x.s)
	}
	if n, err := note.Get([]byte(x.s)); err != api.OK || !same(n, x.n) {
		t.Errorf("%s: Get %v, %d, want %v", x.name, n, err, x.n)
	}
}

func TestNames(t *testing.T) {
	for _, x := range []struct {
		kind int
		want string
	}{
		{api.NoteShip, "EPLD"},
		{api.NoteAck, "EL"},
		{api.NoteBack, "EL"},
		{api.NoteWant, "EC"},
		{api.NoteLease, "ETC"},
		{api.NoteNo, "EC"},
		{api.NoteStep, "EOSUD"},
		{api.NoteDone, "EOSUCD"},
		{api.NoteFence, "EOSU"},
		{api.NoteSubmit, "KD"},
		{api.NoteCancel, "K"},
		{api.NoteQuery, "K"},
		{api.NoteReply, "OCKD"},
	} {
		if got := note.Names(x.kind); got != x.want {
			t.Errorf("kind %d: %q, want %q", x.kind, got, x.want)
		}
	}
	for kind := 1; kind <= 13; kind++ {
		if got := note.Names(kind); got != named[kind] {
			t.Errorf("kind %d: %q, want %q", kind, got, named[kind])
		}
	}
}

// otherKinds are no kinds, though some of them look like one in their last byte.
var otherKinds = []int{math.MinInt, -256, -255, -254, -243, -13, -2, -1, 0, 14, 15, 16, 255, 256, 257, 269, 1<<16 + 1, 1<<32 + 1, math.MaxInt}

func TestNamesOfOtherKinds(t *testing.T) {
	for _, kind := range otherKinds {
		if got := note.Names(kind); got != "" {
			t.Errorf("kind %d: %q, want nothing", kind, got)
		}
	}
	for kind := 14; kind < 2000; kind++ {
		if note.Names(kind) != "" || note.Names(-kind) != "" {
			t.Errorf("kinds %d and %d: %q, %q, want nothing", kind, -kind, note.Names(kind), note.Names(-kind))
		}
	}
}

func TestEveryKind(t *testing.T) {
	for _, x := range ordinary() {
		wantSample(t, x)
	}
}

func TestOtherKinds(t *testing.T) {
	wantInvalid(t, "nothing", api.Note{})
	for _, kind := range otherKinds {
		wantInvalid(t, "another kind, without fields", api.Note{Kind: kind})
		for _, x := range ordinary() {
			x.n.Kind = kind
			wantInvalid(t, "another kind, with the fields of "+x.name, x.n)
		}
	}
}

// Most fields may be zero: only a client has to give a key.
func TestZeroFields(t *testing.T) {
	for kind := 1; kind <= 13; kind++ {
		n := api.Note{Kind: kind}
		if kind == api.NoteSubmit || kind == api.NoteCancel || kind == api.NoteQuery {
			wantInvalid(t, "a client without a key", n)
			n.Key = []byte("k")
		}
		wantValid(t, "a note of zeros", n)
	}
}

func TestNumbers(t *testing.T) {
	for kind := 1; kind <= 13; kind++ {
		for _, x := range named[kind] {
			for _, n := range []api.Note{
				{Epoch: 1, Old: 1, Lsn: 1, Tick: 1, Order: 1},
				{Epoch: 255, Old: 255, Lsn: 255, Tick: 255, Order: 255},
				{Epoch: 256, Old: 256, Lsn: 256, Tick: 256, Order: 256},
				{Epoch: 1 << 31, Old: 1 << 31, Lsn: 1 << 32, Tick: api.MaxTick, Order: 1 << 31},
				{Epoch: 1 << 31, Old: 1 << 31, Lsn: 1 << 63, Tick: api.MaxTick + 1, Order: 1 << 31},
				{Epoch: math.MaxUint32, Old: math.MaxUint32, Lsn: math.MaxUint64, Tick: math.MaxUint64, Order: math.MaxUint32},
			} {
				if strings.ContainsRune("EPLTO", x) {
					one := ofKind(kind)
					pick(&one, n, x)
					wantValid(t, "a number", one)
				}
			}
		}
	}
}

func TestGreatestNumbersTogether(t *testing.T) {
	for _, x := range []sample{
		{"ship", api.Note{Kind: 1, Epoch: math.MaxUint32, Old: math.MaxUint32, Lsn: math.MaxUint64}, "\x01" + strings.Repeat("\xff", 16) + "\x00"},
		{"ack", api.Note{Kind: 2, Epoch: math.MaxUint32, Lsn: math.MaxUint64}, "\x02" + strings.Repeat("\xff", 12)},
		{"lease", api.Note{Kind: 5, Epoch: math.MaxUint32, Tick: math.MaxUint64, Code: 255}, "\x05" + strings.Repeat("\xff", 13)},
		{"done", api.Note{Kind: 8, Epoch: math.MaxUint32, Order: math.MaxUint32, Step: 15, Undo: true, Code: 255}, "\x08" + strings.Repeat("\xff", 8) + "\x0f\x01\xff\x00"},
		{"reply", api.Note{Kind: 13, Order: math.MaxUint32, Code: 255}, "\x0d" + strings.Repeat("\xff", 5) + "\x00\x00"},
	} {
		wantSample(t, x)
	}
}

func TestSteps(t *testing.T) {
	for _, kind := range kindsWith('S') {
		for _, step := range []int{0, 1, 2, api.MaxSteps - 1} {
			for _, undo := range []bool{false, true} {
				n := ofKind(kind)
				n.Step, n.Undo = step, undo
				wantValid(t, "a step", n)
			}
		}
		for _, step := range []int{math.MinInt, -256, -255, -1, api.MaxSteps, 17, 255, 256, 257, 1 << 32, math.MaxInt} {
			n := ofKind(kind)
			n.Step = step
			wantInvalid(t, "a step out of bounds", n)
		}
	}
}

func TestCodes(t *testing.T) {
	for _, kind := range kindsWith('C') {
		n := ofKind(kind)
		for _, n.Code = range []int{0, 1, 2, 3, 127, 128, 254, 255} {
			wantValid(t, "a code", n)
		}
		for _, n.Code = range []int{math.MinInt, -256, -255, -1, 256, 257, 511, 512, 1 << 32, 1<<32 + 1, math.MaxInt} {
			wantInvalid(t, "a code out of bounds", n)
		}
	}
}

func TestKeys(t *testing.T) {
	for _, kind := range kindsWith('K') {
		for _, size := range []int{1, 2, api.MaxKey - 1, api.MaxKey} {
			n := ofKind(kind)
			n.Key = bytes.Repeat([]byte{'k'}, size)
			wantValid(t, "a key", n)
		}
		for _, size := range []int{api.MaxKey + 1, 255, 256, 257, 256 + 5, 70000} {
			n := ofKind(kind)
			n.Key = bytes.Repeat([]byte{'k'}, size)
			wantInvalid(t, "a key that is too long", n)
		}
	}
}

func TestEmptyKeys(t *testing.T) {
	for _, empty := range [][]byte{nil, {}, make([]byte, 0, 9)} {
		for _, kind := range []int{api.NoteSubmit, api.NoteCancel, api.NoteQuery} {
			n := ofKind(kind)
			n.Key = empty
			wantInvalid(t, "an empty key of a client", n)
		}
		n := ofKind(api.NoteReply)
		n.Key = empty
		wantValid(t, "an empty key of a reply", n)
	}
}

func TestData(t *testing.T) {
	for _, kind := range kindsWith('D') {
		for _, size := range []int{0, 1, 2, 32, 33, 200, 201, api.MaxNote - 1, api.MaxNote} {
			n := ofKind(kind)
			n.Data = bytes.Repeat([]byte{'d'}, size)
			wantValid(t, "data", n)
		}
		for _, size := range []int{api.MaxNote + 1, 257, 256 + 5, 512, 70000} {
			n := ofKind(kind)
			n.Data = bytes.Repeat([]byte{'d'}, size)
			wantInvalid(t, "data that is too long", n)
		}
	}
}

func TestLongestNotes(t *testing.T) {
	key, data := strings.Repeat("k", 32), strings.Repeat("d", 255)
	wantSample(t, sample{"submit", api.Note{Kind: 10, Key: []byte(key), Data: []byte(data)}, "\x0a\x20" + key + "\xff" + data})
	wantSample(t, sample{"reply", api.Note{Kind: 13, Key: []byte(key), Data: []byte(data)}, "\x0d\x00\x00\x00\x00\x00\x20" + key + "\xff" + data})
}

func TestFieldsOfOtherKinds(t *testing.T) {
	wrong := []struct {
		letter rune
		n      api.Note
	}{
		{'E', api.Note{Epoch: 1}},
		{'E', api.Note{Epoch: math.MaxUint32}},
		{'P', api.Note{Old: 1}},
		{'P', api.Note{Old: math.MaxUint32}},
		{'L', api.Note{Lsn: 1}},
		{'L', api.Note{Lsn: 1 << 32}},
		{'L', api.Note{Lsn: math.MaxUint64}},
		{'T', api.Note{Tick: 1}},
		{'T', api.Note{Tick: 1 << 32}},
		{'T', api.Note{Tick: math.MaxUint64}},
		{'O', api.Note{Order: 1}},
		{'O', api.Note{Order: math.MaxUint32}},
		{'S', api.Note{Step: 1}},
		{'S', api.Note{Step: 15}},
		{'S', api.Note{Step: -1}},
		{'S', api.Note{Step: 256}},
		{'U', api.Note{Undo: true}},
		{'C', api.Note{Code: 1}},
		{'C', api.Note{Code: 255}},
		{'C', api.Note{Code: -1}},
		{'C', api.Note{Code: 256}},
		{'K', api.Note{Key: []byte("k")}},
		{'K', api.Note{Key: []byte{0}}},
		{'K', api.Note{Key: make([]byte, 256)}},
		{'D', api.Note{Data: []byte("d")}},
		{'D', api.Note{Data: []byte{0}}},
		{'D', api.Note{Data: make([]byte, 256)}},
	}
	for kind := 1; kind <= 13; kind++ {
		for _, x := range wrong {
			if strings.ContainsRune(named[kind], x.letter) {
				continue
			}
			n := ofKind(kind)
			pick(&n, x.n, x.letter)
			wantInvalid(t, string(x.letter)+" in another kind", n)
		}
	}
}

// A nil slice and an empty one are equivalent.
func TestEmptySlices(t *testing.T) {
	for _, x := range ordinary() {
		if len(x.n.Key) == 0 {
			x.n.Key = []byte{}
		}
		if len(x.n.Data) == 0 {
			x.n.Data = make([]byte, 0, 9)
		}
		wantValid(t, x.name, x.n)
	}
}

func TestAnyNotes(t *testing.T) {
	r := source()
	good := 0
	for range 20000 {
		n := anyNote(r)
		if valid(n) {
			good++
		}
		wantAsSaid(t, "any", n)
	}
	if good < 5000 || good > 17000 {
		t.Errorf("%d of 20000 notes were valid: too few of one sort to tell", good)
	}
}

func TestPutKeepsItsArgument(t *testing.T) {
	for _, kind := range []int{api.NoteSubmit, api.NoteReply} {
		room := []byte("keydata..")
		n := ofKind(kind)
		n.Key, n.Data = room[:3], room[3:7]
		before := byTheWords(n)
		a, _ := note.Put(n)
		b, _ := note.Put(n)
		if note.Check(n) != api.OK || string(room) != "keydata.." || !bytes.Equal(byTheWords(n), before) {
			t.Errorf("the argument was changed: %q", room)
		}
		spoil(room)
		spoil(a)
		if !bytes.Equal(b, before) {
			t.Errorf("results share memory: %x", b)
		}
	}
}

// Every value has one encoding, and it is Check that says which values there are.
func FuzzPut(f *testing.F) {
	for _, x := range ordinary() {
		n := x.n
		f.Add(n.Kind, n.Epoch, n.Old, n.Lsn, n.Tick, n.Order, n.Step, n.Undo, n.Code, n.Key, n.Data)
	}
	f.Add(14, uint32(0), uint32(0), uint64(0), uint64(0), uint32(0), 0, false, 0, []byte(nil), []byte(nil))
	f.Add(13, uint32(0), uint32(0), uint64(0), uint64(0), uint32(1), 0, false, 256, make([]byte, 33), make([]byte, 256))
	f.Fuzz(func(t *testing.T, kind int, epoch, old uint32, lsn, tick uint64, order uint32, step int, undo bool, code int, key, data []byte) {
		wantAsSaid(t, "fuzz", api.Note{Kind: kind, Epoch: epoch, Old: old, Lsn: lsn, Tick: tick, Order: order, Step: step, Undo: undo, Code: code, Key: key, Data: data})
	})
}
