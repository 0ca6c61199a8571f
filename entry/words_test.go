package entry_test

import (
	"bytes"
	"encoding/binary"
	"math/rand"
	"testing"

	"drayage/api"
	"drayage/entry"
)

// source gives the same numbers in every run, so that a failure can be repeated.
func source() *rand.Rand { return rand.New(rand.NewSource(4)) }

// named are the fields that a kind names, each by a letter, in the order of their encoding: Order, Key, Data, Step, Undo, Try, Code, Mark.
var named = map[int]string{
	api.EntryEpoch:  "",
	api.EntryOrder:  "okd",
	api.EntryIntent: "osut",
	api.EntryResult: "osutc",
	api.EntryEnd:    "oc",
	api.EntryMode:   "c",
	api.EntryMark:   "m",
}

var greatestCode = map[int]int{api.EntryResult: 3, api.EntryEnd: 3, api.EntryMode: 2}

func same(a, b api.Entry) bool {
	return a.Kind == b.Kind && a.Lsn == b.Lsn && a.Epoch == b.Epoch && a.Order == b.Order && a.Step == b.Step &&
		a.Undo == b.Undo && a.Try == b.Try && a.Code == b.Code && a.Mark == b.Mark &&
		bytes.Equal(a.Key, b.Key) && bytes.Equal(a.Data, b.Data)
}

// isZero tells whether there is nothing at all in an entry.
func isZero(e api.Entry) bool { return same(e, api.Entry{}) }

// pick sets that field of e, which has a letter, as it is in from.
func pick(e *api.Entry, from api.Entry, letter rune) {
	switch letter {
	case 'o':
		e.Order = from.Order
	case 'k':
		e.Key = from.Key
	case 'd':
		e.Data = from.Data
	case 's':
		e.Step = from.Step
	case 'u':
		e.Undo = from.Undo
	case 't':
		e.Try = from.Try
	case 'c':
		e.Code = from.Code
	case 'm':
		e.Mark = from.Mark
	}
}

// within tells whether that field of e is within its bounds.
func within(e api.Entry, letter rune) bool {
	switch letter {
	case 'o':
		return e.Order >= 1
	case 'k':
		return 1 <= len(e.Key) && len(e.Key) <= 32
	case 'd':
		return len(e.Data) <= 200
	case 's':
		return 0 <= e.Step && e.Step <= 15
	case 't':
		return 1 <= e.Try && e.Try <= 255
	case 'c':
		return 1 <= e.Code && e.Code <= greatestCode[e.Kind]
	case 'm':
		return e.Mark < e.Lsn
	}
	return true
}

// valid says what the chapter's table says.
func valid(e api.Entry) bool {
	letters, known := named[e.Kind]
	if !known || e.Lsn < 1 || e.Epoch < 1 {
		return false
	}
	bare := api.Entry{Kind: e.Kind, Lsn: e.Lsn, Epoch: e.Epoch}
	for _, x := range letters {
		if !within(e, x) {
			return false
		}
		pick(&bare, e, x)
	}
	return same(bare, e)
}

// byTheWords writes an entry as the chapter says it, whether its fields are within their bounds or not.
func byTheWords(e api.Entry) []byte {
	b := binary.BigEndian.AppendUint64([]byte{byte(e.Kind)}, e.Lsn)
	b = binary.BigEndian.AppendUint32(b, e.Epoch)
	for _, x := range named[e.Kind] {
		switch x {
		case 'o':
			b = binary.BigEndian.AppendUint32(b, e.Order)
		case 'k':
			b = append(append(b, byte(len(e.Key))), e.Key...)
		case 'd':
			b = append(append(b, byte(len(e.Data))), e.Data...)
		case 's':
			b = append(b, byte(e.Step))
		case 'u':
			b = append(b, map[bool]byte{true: 1}[e.Undo])
		case 't':
			b = append(b, byte(e.Try))
		case 'c':
			b = append(b, byte(e.Code))
		case 'm':
			b = binary.BigEndian.AppendUint64(b, e.Mark)
		}
	}
	return b
}

// ordinary returns valid entries of all kinds, each with the bytes that follow its header; all have the same Lsn and Epoch.
func ordinary() []struct {
	name string
	e    api.Entry
	rest string
} {
	head := func(e api.Entry) api.Entry {
		e.Lsn, e.Epoch = 0x0102030405060708, 0x0a0b0c0d
		return e
	}
	return []struct {
		name string
		e    api.Entry
		rest string
	}{
		{"epoch", head(api.Entry{Kind: 1}), ""},
		{"order", head(api.Entry{Kind: 2, Order: 0x01020304, Key: []byte("key"), Data: []byte("some data")}), "\x01\x02\x03\x04\x03key\x09some data"},
		{"order without data", head(api.Entry{Kind: 2, Order: 1, Key: []byte{0}}), "\x00\x00\x00\x01\x01\x00\x00"},
		{"intent", head(api.Entry{Kind: 3, Order: 0x01020304, Step: 2, Try: 3}), "\x01\x02\x03\x04\x02\x00\x03"},
		{"intent to undo", head(api.Entry{Kind: 3, Order: 0x01020304, Step: 2, Undo: true, Try: 3}), "\x01\x02\x03\x04\x02\x01\x03"},
		{"result done", head(api.Entry{Kind: 4, Order: 0x01020304, Step: 5, Try: 6, Code: api.Done}), "\x01\x02\x03\x04\x05\x00\x06\x01"},
		{"result refused", head(api.Entry{Kind: 4, Order: 0x01020304, Step: 5, Undo: true, Try: 6, Code: api.Refused}), "\x01\x02\x03\x04\x05\x01\x06\x02"},
		{"result unsure", head(api.Entry{Kind: 4, Order: 0x01020304, Step: 5, Try: 6, Code: api.Unsure}), "\x01\x02\x03\x04\x05\x00\x06\x03"},
		{"end completed", head(api.Entry{Kind: 5, Order: 0x01020304, Code: api.Completed}), "\x01\x02\x03\x04\x01"},
		{"end compensated", head(api.Entry{Kind: 5, Order: 0x01020304, Code: api.Compensated}), "\x01\x02\x03\x04\x02"},
		{"end stuck", head(api.Entry{Kind: 5, Order: 0x01020304, Code: api.Stuck}), "\x01\x02\x03\x04\x03"},
		{"mode sync", head(api.Entry{Kind: 6, Code: api.ModeSync}), "\x01"},
		{"mode solo", head(api.Entry{Kind: 6, Code: api.ModeSolo}), "\x02"},
		{"mark", head(api.Entry{Kind: 7, Mark: 0x0102030405060707}), "\x01\x02\x03\x04\x05\x06\x07\x07"},
		{"mark of nothing", head(api.Entry{Kind: 7}), "\x00\x00\x00\x00\x00\x00\x00\x00"},
	}
}

// ofKind returns one ordinary entry of a kind.
func ofKind(kind int) api.Entry {
	for _, x := range ordinary() {
		if x.e.Kind == kind {
			return x.e
		}
	}
	panic("no such kind")
}

// anyEntry returns an entry whose fields are often at the edges, and often not valid.
func anyEntry(r *rand.Rand) api.Entry {
	one := func(l ...int) int { return l[r.Intn(len(l))] }
	e := api.Entry{Kind: one(1, 2, 3, 4, 5, 6, 7), Lsn: uint64(one(1, 2, 9, 1<<40)), Epoch: uint32(one(1, 2, 1<<31))}
	full := api.Entry{
		Order: uint32(one(1, 2, 1<<31)), Step: one(0, 1, 15), Undo: r.Intn(2) == 0, Try: one(1, 2, 255), Code: one(1, 2, 3),
		Mark: uint64(one(0, 1, 8)), Key: make([]byte, one(1, 2, 32)), Data: make([]byte, one(0, 1, 200)),
	}
	r.Read(full.Key)
	r.Read(full.Data)
	for _, x := range named[e.Kind] {
		pick(&e, full, x)
	}
	if r.Intn(3) == 0 { // one thing is wrong, or at least another one
		full = api.Entry{
			Order: uint32(one(0, 1)), Step: one(-1, 0, 16, 256), Undo: r.Intn(2) == 0, Try: one(-1, 0, 256, 257), Code: one(-1, 0, 3, 4, 257),
			Mark: uint64(one(0, 1, 9, 10)), Key: make([]byte, one(0, 1, 33)), Data: make([]byte, one(0, 1, 201)),
		}
		pick(&e, full, rune("okdsutcm"[r.Intn(8)]))
	}
	return e
}

func wantValid(t *testing.T, name string, e api.Entry) {
	t.Helper()
	if err := entry.Check(e); err != api.OK {
		t.Errorf("%s: Check %d, want OK", name, err)
	}
	want := byTheWords(e)
	b, err := entry.Put(e)
	if err != api.OK || !bytes.Equal(b, want) {
		t.Errorf("%s: Put %x, %d, want %x", name, b, err, want)
	}
	got, err := entry.Get(want)
	if err != api.OK || !same(got, e) {
		t.Errorf("%s: Get %v, %d, want %v", name, got, err, e)
	}
}

func wantInvalid(t *testing.T, name string, e api.Entry) {
	t.Helper()
	if err := entry.Check(e); err != api.ErrEntry {
		t.Errorf("%s: Check %d, want ErrEntry", name, err)
	}
	if b, err := entry.Put(e); err != api.ErrEntry || len(b) != 0 {
		t.Errorf("%s: Put %x, %d, want nothing and ErrEntry", name, b, err)
	}
}

func wantNoEntry(t *testing.T, name string, b []byte) {
	t.Helper()
	if e, err := entry.Get(b); err != api.ErrEntry || !isZero(e) {
		t.Errorf("%s: Get of %x: %v, %d, want nothing and ErrEntry", name, b, e, err)
	}
}
