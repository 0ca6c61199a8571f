package fence_test

import (
	"bytes"
	"slices"
	"testing"

	"drayage/api"
	"drayage/fence"
)

// roomy returns a fence like f, whose list and texts have spare capacity with something in it.
func roomy(f api.Fence) api.Fence {
	room := make([]api.Kept, len(f.L)+4)
	for i := range room {
		room[i] = kept(77, 7, true, "beyond", 7, "beyond")
	}
	for i, k := range f.L {
		k.Asked = append(slices.Clip(bytes.Clone(k.Asked)), "behind"...)[:len(k.Asked)]
		k.Reply = append(slices.Clip(bytes.Clone(k.Reply)), "behind"...)[:len(k.Reply)]
		room[i] = k
	}
	return api.Fence{Epoch: f.Epoch, L: room[:len(f.L)]}
}

// whole returns a copy of f with all spare capacity.
func whole(f api.Fence) api.Fence {
	c := api.Fence{Epoch: f.Epoch}
	for _, k := range f.L[:cap(f.L)] {
		c.L = append(c.L, kept(k.Order, k.Step, k.Undo, string(k.Asked[:cap(k.Asked)]), k.Code, string(k.Reply[:cap(k.Reply)])))
	}
	return c
}

// spoil writes over b and its spare capacity.
func spoil(b []byte) {
	b = b[:cap(b)]
	for i := range b {
		b[i] = ^b[i]
	}
}

func spoilFence(f api.Fence) {
	l := f.L[:cap(f.L)]
	for i, k := range l {
		spoil(k.Asked)
		spoil(k.Reply)
		l[i] = api.Kept{Order: ^k.Order, Step: ^k.Step, Undo: !k.Undo, Code: ^k.Code}
	}
}

func TestArgumentsStayAsTheyAre(t *testing.T) {
	for _, x := range append(ordinary(), broken()...) {
		f, reply := roomy(x.f), append([]byte("reply"), "behind"...)[:5]
		before := whole(f)
		fence.Check(f)
		fence.Put(f)
		for _, epoch := range []uint32{1, 5, greatest} {
			fence.See(f, epoch)
			for _, k := range append(slices.Clone(x.f.L[:min(len(x.f.L), 20)]), plain(1, 0, false), plain(9, 9, true)) {
				for _, undo := range []bool{false, true} {
					n := request(epoch, k.Order, k.Step, undo, string(k.Asked))
					n.Data = append(n.Data, "behind"...)[:len(n.Data)]
					data := string(n.Data[:cap(n.Data)])
					fence.Find(f, k.Order, k.Step, undo)
					fence.Ask(f, n)
					fence.Keep(f, n, api.Done, reply)
					fence.Keep(f, n, api.Refused, reply)
					if string(n.Data[:cap(n.Data)]) != data {
						t.Errorf("%s: the data was changed: %q, want %q", x.name, n.Data[:cap(n.Data)], data)
					}
				}
			}
		}
		if !same(whole(f), before) || string(reply[:11]) != "replybehind" {
			t.Errorf("%s: the arguments were changed: %v, %q, want %v", x.name, whole(f), reply[:11], before)
		}
	}
}

// wantOwnMemory expects that what call returns shares no memory with the fence that call is given, nor with what it returns another time, nor in itself.
func wantOwnMemory(t *testing.T, name string, f api.Fence, call func(f api.Fence) api.Fence) {
	t.Helper()
	f = roomy(f)
	before := whole(f)
	one, two := call(f), call(f)
	want := copyOf(two)
	spoilFence(one)
	if !same(whole(f), before) || !same(two, want) {
		t.Errorf("%s: a result shares memory with the argument, or with another", name)
	}
	spoilFence(f)
	if !same(two, want) {
		t.Errorf("%s: a result shares memory with the argument", name)
	}
	wantApart(t, name, two)
}

// wantApart expects that no two texts of f share memory, their spare capacity included.
func wantApart(t *testing.T, name string, f api.Fence) {
	t.Helper()
	want := copyOf(f)
	for i := range f.L {
		spoil(f.L[i].Asked)
		want.L[i].Asked = bytes.Clone(f.L[i].Asked)
		if !same(f, want) {
			t.Errorf("%s: the Asked of element %d shares memory with another text", name, i)
		}
		spoil(f.L[i].Reply)
		want.L[i].Reply = bytes.Clone(f.L[i].Reply)
		if !same(f, want) {
			t.Errorf("%s: the Reply of element %d shares memory with another text", name, i)
		}
	}
}

func TestSeeSharesNoMemory(t *testing.T) {
	for _, x := range ordinary() {
		for _, epoch := range []uint32{x.f.Epoch, greatest} {
			wantOwnMemory(t, x.name, x.f, func(f api.Fence) api.Fence {
				g, err := fence.See(f, epoch)
				if err != api.OK || len(g.L) != len(x.f.L) {
					t.Errorf("%s: See: %v, %d", x.name, g, err)
				}
				return g
			})
		}
	}
}

func TestFindAndAskShareNoMemory(t *testing.T) {
	for _, x := range ordinary() {
		for _, k := range x.f.L[:min(len(x.f.L), 20)] {
			wantOwnMemory(t, x.name, x.f, func(f api.Fence) api.Fence {
				k, _ := fence.Find(f, k.Order, k.Step, k.Undo)
				return of(0, k)
			})
			wantOwnMemory(t, x.name, x.f, func(f api.Fence) api.Fence {
				_, k, err := fence.Ask(f, request(greatest, k.Order, k.Step, k.Undo, string(k.Asked)))
				if err != api.OK {
					t.Errorf("%s: Ask: %d", x.name, err)
				}
				return of(0, k)
			})
		}
	}
}

// The element has nothing to do with the note either, though its Asked has the same bytes.
func TestAskSharesNoMemoryWithTheNote(t *testing.T) {
	n := request(5, 2, 1, false, "hold")
	_, k, _ := fence.Ask(some(), n)
	spoil(n.Data)
	if !sameKept(k, some().L[0]) {
		t.Errorf("the element shares memory with the note: %v", k)
	}
}

func TestKeepSharesNoMemory(t *testing.T) {
	for _, x := range ordinary() {
		for _, n := range []api.Note{request(greatest, 1, 14, false, "data"), request(greatest, 3, 9, true, "data"), request(greatest, greatest, 3, false, "")} {
			if _, err := fence.Keep(x.f, n, api.Done, nil); err != api.OK {
				continue
			}
			wantOwnMemory(t, x.name, x.f, func(f api.Fence) api.Fence {
				g, _ := fence.Keep(f, n, api.Done, []byte("reply"))
				return g
			})
		}
	}
}

// The data and the reply may be one text, or texts of the fence itself, and may be written over later.
func TestKeepSharesNoMemoryWithItsTexts(t *testing.T) {
	text := []byte("text")
	f := of(2, api.Kept{Order: 1, Asked: text, Code: 1, Reply: text})
	n := api.Note{Kind: api.NoteStep, Epoch: 3, Order: 1, Step: 1, Data: text}
	want := of(3, kept(1, 0, false, "text", 1, "text"), kept(1, 1, false, "text", 2, "text"))
	one, errOne := fence.Keep(f, n, api.Refused, text)
	two, errTwo := fence.Keep(f, n, api.Refused, text)
	if errOne != api.OK || errTwo != api.OK || !same(one, want) || !same(two, want) {
		t.Fatalf("Keep: %v, %d, %v, %d", one, errOne, two, errTwo)
	}
	spoilFence(one)
	if string(text) != "text" || !same(two, want) {
		t.Errorf("a result shares memory with the texts, or with another: %q, %v", text, two)
	}
	spoil(text)
	if !same(two, want) {
		t.Errorf("a result shares memory with the texts: %v", two)
	}
	wantApart(t, "Keep", two)
}

// Two fences that are made from one do not write over each other, though there may be room behind its list.
func TestKeepTwiceFromOneFence(t *testing.T) {
	f := api.Fence{}
	for i := range uint32(100) {
		one, errOne := fence.Keep(f, request(1, i+1, 0, false, "one"), api.Done, []byte("r"))
		two, errTwo := fence.Keep(f, request(1, i+1, 1, false, "two"), api.Refused, []byte("s"))
		if errOne != api.OK || errTwo != api.OK {
			t.Fatalf("Keep: %d, %d", errOne, errTwo)
		}
		if !sameKept(one.L[i], kept(i+1, 0, false, "one", 1, "r")) || !sameKept(two.L[i], kept(i+1, 1, false, "two", 2, "s")) {
			t.Errorf("%v and %v share memory", one, two)
		}
		f = one
	}
}

func TestPutSharesNoMemory(t *testing.T) {
	for _, x := range ordinary() {
		f := roomy(x.f)
		before, want := whole(f), bytesOf(x.f)
		one, _ := fence.Put(f)
		two, _ := fence.Put(f)
		spoil(one)
		if !same(whole(f), before) || !bytes.Equal(two, want) {
			t.Errorf("%s: the bytes share memory with the fence, or with others", x.name)
		}
		spoilFence(f)
		if !bytes.Equal(two, want) {
			t.Errorf("%s: the bytes share memory with the fence", x.name)
		}
	}
}

func TestGetSharesNoMemory(t *testing.T) {
	for _, x := range ordinary() {
		b := append(bytesOf(x.f), "behind"...)
		before := string(b)
		b = b[:len(b)-6]
		one, _ := fence.Get(b)
		two, _ := fence.Get(b)
		spoilFence(one)
		if string(b[:len(before)]) != before || !same(two, x.f) {
			t.Errorf("%s: the fence shares memory with the bytes, or with another", x.name)
		}
		spoil(b)
		if !same(two, x.f) {
			t.Errorf("%s: the fence shares memory with the bytes", x.name)
		}
		wantApart(t, x.name, two)
	}
}
