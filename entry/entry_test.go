package entry_test

import (
	"bytes"
	"math"
	"testing"

	"drayage/api"
	"drayage/entry"
)

func TestExample(t *testing.T) {
	e := api.Entry{Kind: api.EntryEnd, Lsn: 7, Epoch: 2, Order: 258, Code: 1}
	want := "\x05\x00\x00\x00\x00\x00\x00\x00\x07\x00\x00\x00\x02\x00\x00\x01\x02\x01"
	if b, err := entry.Put(e); err != api.OK || string(b) != want {
		t.Errorf("%x, %d", b, err)
	}
	if got, err := entry.Get([]byte(want)); err != api.OK || !same(got, e) {
		t.Errorf("%v, %d", got, err)
	}
}

func TestEveryKind(t *testing.T) {
	for _, x := range ordinary() {
		want := string([]byte{byte(x.e.Kind)}) + "\x01\x02\x03\x04\x05\x06\x07\x08\x0a\x0b\x0c\x0d" + x.rest
		if err := entry.Check(x.e); err != api.OK {
			t.Errorf("%s: Check %d", x.name, err)
		}
		if b, err := entry.Put(x.e); err != api.OK || string(b) != want {
			t.Errorf("%s: Put %x, %d, want %x", x.name, b, err, want)
		}
		if e, err := entry.Get([]byte(want)); err != api.OK || !same(e, x.e) {
			t.Errorf("%s: Get %v, %d, want %v", x.name, e, err, x.e)
		}
	}
}

func TestKinds(t *testing.T) {
	wantInvalid(t, "nothing", api.Entry{})
	for _, kind := range []int{math.MinInt, -256, -255, -254, -7, -2, -1, 0, 8, 9, 255, 256, 257, 263, 1<<16 + 1, 1<<32 + 1, math.MaxInt} {
		for _, x := range ordinary() {
			x.e.Kind = kind
			wantInvalid(t, "another kind, with the fields of "+x.name, x.e)
		}
	}
}

func TestHeads(t *testing.T) {
	for kind := 1; kind <= 7; kind++ {
		for _, lsn := range []uint64{0, 1, 2, 255, 256, 1 << 32, 1 << 63, math.MaxUint64} {
			for _, epoch := range []uint32{0, 1, 2, 255, 256, 1 << 31, math.MaxUint32} {
				e := ofKind(kind)
				e.Lsn, e.Epoch, e.Mark = lsn, epoch, 0
				if lsn == 0 || epoch == 0 {
					wantInvalid(t, "Lsn or Epoch 0", e)
					wantNoEntry(t, "Lsn or Epoch 0", byTheWords(e))
				} else {
					wantValid(t, "a head", e)
				}
			}
		}
	}
}

func TestOrders(t *testing.T) {
	for _, kind := range []int{api.EntryOrder, api.EntryIntent, api.EntryResult, api.EntryEnd} {
		e := ofKind(kind)
		for _, e.Order = range []uint32{1, 2, 255, 256, 1 << 31, math.MaxUint32} {
			wantValid(t, "an order", e)
		}
		e.Order = 0
		wantInvalid(t, "order 0", e)
		wantNoEntry(t, "order 0", byTheWords(e))
	}
}

func TestKeysAndData(t *testing.T) {
	for _, key := range []int{0, 1, 2, api.MaxKey - 1, api.MaxKey, api.MaxKey + 1, 200, 255, 256, 257, 70000} {
		for _, data := range []int{0, 1, 32, 33, api.MaxData - 1, api.MaxData, api.MaxData + 1, 255, 256, 257, 70000} {
			e := ofKind(api.EntryOrder)
			e.Key, e.Data = bytes.Repeat([]byte{'k'}, key), bytes.Repeat([]byte{'d'}, data)
			if 1 <= key && key <= 32 && data <= 200 {
				wantValid(t, "texts", e)
				continue
			}
			wantInvalid(t, "texts out of bounds", e)
			if key <= 255 && data <= 255 {
				wantNoEntry(t, "texts out of bounds", byTheWords(e))
			}
		}
	}
}

func TestStepsAndTries(t *testing.T) {
	for _, kind := range []int{api.EntryIntent, api.EntryResult} {
		for _, step := range []int{math.MinInt, -256, -255, -1, 0, 1, api.MaxSteps - 1, api.MaxSteps, 17, 255, 256, 257, 1 << 32, math.MaxInt} {
			for _, try := range []int{math.MinInt, -256, -255, -1, 0, 1, 2, api.MaxTry - 1, api.MaxTry, api.MaxTry + 1, 257, 1<<32 + 1, math.MaxInt} {
				for _, undo := range []bool{false, true} {
					e := ofKind(kind)
					e.Step, e.Try, e.Undo = step, try, undo
					if 0 <= step && step <= 15 && 1 <= try && try <= 255 {
						wantValid(t, "a step", e)
					} else {
						wantInvalid(t, "a step out of bounds", e)
					}
				}
			}
		}
	}
}

func TestCodes(t *testing.T) {
	for kind, most := range greatestCode {
		for _, code := range []int{math.MinInt, -256, -255, -1, 0, 1, 2, 3, 4, 5, 255, 256, 257, 258, 1<<32 + 1, math.MaxInt} {
			e := ofKind(kind)
			e.Code = code
			if 1 <= code && code <= most {
				wantValid(t, "a code", e)
			} else {
				wantInvalid(t, "a code out of bounds", e)
			}
		}
	}
}

func TestMarks(t *testing.T) {
	for _, lsn := range []uint64{1, 2, 256, 257, 1 << 32, 1 << 63, math.MaxUint64} {
		e := api.Entry{Kind: api.EntryMark, Epoch: 1, Lsn: lsn}
		for _, e.Mark = range []uint64{0, lsn / 2, lsn - 1} {
			wantValid(t, "a mark", e)
		}
		for _, e.Mark = range []uint64{lsn, max(lsn, lsn+1), math.MaxUint64} {
			wantInvalid(t, "a mark not less than the Lsn", e)
			wantNoEntry(t, "a mark not less than the Lsn", byTheWords(e))
		}
	}
}

func TestFieldsOfOtherKinds(t *testing.T) {
	wrong := []struct {
		letter rune
		e      api.Entry
	}{
		{'o', api.Entry{Order: 1}},
		{'o', api.Entry{Order: math.MaxUint32}},
		{'s', api.Entry{Step: 1}},
		{'s', api.Entry{Step: -1}},
		{'s', api.Entry{Step: 256}},
		{'u', api.Entry{Undo: true}},
		{'t', api.Entry{Try: 1}},
		{'t', api.Entry{Try: -1}},
		{'t', api.Entry{Try: 256}},
		{'c', api.Entry{Code: 1}},
		{'c', api.Entry{Code: -1}},
		{'c', api.Entry{Code: 256}},
		{'m', api.Entry{Mark: 1}},
		{'m', api.Entry{Mark: math.MaxUint64}},
		{'k', api.Entry{Key: []byte("k")}},
		{'k', api.Entry{Key: []byte{0}}},
		{'k', api.Entry{Key: make([]byte, 256)}},
		{'d', api.Entry{Data: []byte("d")}},
		{'d', api.Entry{Data: []byte{0}}},
		{'d', api.Entry{Data: make([]byte, 256)}},
	}
	for kind := 1; kind <= 7; kind++ {
		for _, x := range wrong {
			if bytes.ContainsRune([]byte(named[kind]), x.letter) {
				continue
			}
			e := ofKind(kind)
			pick(&e, x.e, x.letter)
			wantInvalid(t, string(x.letter)+" in another kind", e)
		}
	}
}

// A nil slice and an empty one are equivalent.
func TestEmptySlices(t *testing.T) {
	for _, x := range ordinary() {
		if len(x.e.Key) == 0 {
			x.e.Key = []byte{}
		}
		if len(x.e.Data) == 0 {
			x.e.Data = make([]byte, 0, 9)
		}
		wantValid(t, x.name, x.e)
	}
	for _, empty := range [][]byte{nil, {}} {
		e := ofKind(api.EntryOrder)
		e.Key = empty
		wantInvalid(t, "an empty key", e)
	}
}

func TestAnyEntries(t *testing.T) {
	r := source()
	good := 0
	for range 20000 {
		e := anyEntry(r)
		if valid(e) {
			good++
			wantValid(t, "any", e)
		} else {
			wantInvalid(t, "any", e)
		}
	}
	if good < 5000 || good > 18000 {
		t.Errorf("%d of 20000 entries were valid: too few of one sort to tell", good)
	}
}

func TestPutKeepsItsArgument(t *testing.T) {
	room := []byte("keydata..")
	e := ofKind(api.EntryOrder)
	e.Key, e.Data = room[:3], room[3:7]
	before := byTheWords(e)
	a, _ := entry.Put(e)
	b, _ := entry.Put(e)
	if string(room) != "keydata.." || !bytes.Equal(byTheWords(e), before) {
		t.Errorf("the argument was changed: %q", room)
	}
	clear(room)
	clear(a[:cap(a)])
	if !bytes.Equal(b, before) {
		t.Errorf("results share memory: %x", b)
	}
}

// Every value has one encoding, and it is Check that says which values there are.
func FuzzPut(f *testing.F) {
	for _, x := range ordinary() {
		e := x.e
		f.Add(e.Kind, e.Lsn, e.Epoch, e.Order, e.Step, e.Undo, e.Try, e.Code, e.Mark, e.Key, e.Data)
	}
	f.Add(8, uint64(1), uint32(1), uint32(0), 0, false, 0, 0, uint64(0), []byte(nil), []byte(nil))
	f.Add(2, uint64(1), uint32(1), uint32(1), 0, false, 0, 0, uint64(0), make([]byte, 33), make([]byte, 201))
	f.Fuzz(func(t *testing.T, kind int, lsn uint64, epoch, order uint32, step int, undo bool, try, code int, mark uint64, key, data []byte) {
		e := api.Entry{Kind: kind, Lsn: lsn, Epoch: epoch, Order: order, Step: step, Undo: undo, Try: try, Code: code, Mark: mark, Key: key, Data: data}
		if valid(e) {
			wantValid(t, "fuzz", e)
		} else {
			wantInvalid(t, "fuzz", e)
		}
	})
}
