package fence_test

import (
	"math"
	"testing"

	"drayage/api"
	"drayage/fence"
)

// The example of the chapter, call by call.
func TestExample(t *testing.T) {
	none := api.Kept{}
	first, undo1, step1 := request(2, 1, 0, false, "a"), request(2, 1, 1, true, ""), request(2, 1, 1, false, "c")
	wantAsk(t, "at first", api.Fence{}, first, api.ActDo, none, api.OK)
	f, err := fence.Keep(api.Fence{}, first, api.Done, []byte("r"))
	answered := kept(1, 0, false, "a", api.Done, "r")
	if err != api.OK || !same(f, of(2, answered)) {
		t.Fatalf("Keep: %v, %d", f, err)
	}
	wantAsk(t, "again", f, first, api.ActAgain, answered, api.OK)
	wantAsk(t, "with other data", f, request(2, 1, 0, false, "b"), 0, none, api.ErrClash)
	wantAsk(t, "in epoch 1", f, request(1, 1, 0, false, "a"), 0, none, api.ErrStale)
	wantAsk(t, "its undo", f, request(2, 1, 0, true, ""), api.ActDo, none, api.OK)
	wantAsk(t, "the undo of step 1", f, undo1, api.ActEmpty, none, api.OK)
	wantAsk(t, "step 1", f, step1, api.ActDo, none, api.OK)
	f, err = fence.Keep(f, undo1, api.Done, nil)
	if err != api.OK || !same(f, of(2, answered, kept(1, 1, true, "", api.Done, ""))) {
		t.Fatalf("Keep: %v, %d", f, err)
	}
	wantAsk(t, "step 1 after its undo", f, step1, api.ActRefuse, none, api.OK)
}

func TestCheck(t *testing.T) {
	for _, x := range ordinary() {
		wantCheck(t, x.name, x.f, api.OK)
	}
	for _, x := range broken() {
		wantCheck(t, x.name, x.f, api.ErrArg)
	}
}

func TestCheckEdgesOfFields(t *testing.T) {
	for step := -2; step <= api.MaxSteps+1; step++ {
		want := api.OK
		if step < 0 || step >= api.MaxSteps {
			want = api.ErrArg
		}
		wantCheck(t, "a step", of(2, plain(1, step, false)), want)
		wantCheck(t, "a step, undone", of(2, plain(1, step, true)), want)
	}
	for _, n := range []int{0, 1, 254, api.MaxNote} {
		wantCheck(t, "an Asked", of(2, kept(1, 0, false, long(n), 1, "")), api.OK)
		wantCheck(t, "a Reply", of(2, kept(1, 0, false, "", 1, long(n))), api.OK)
	}
	wantCheck(t, "an Asked of MaxNote + 1", of(2, kept(1, 0, false, long(api.MaxNote+1), 1, "")), api.ErrArg)
	wantCheck(t, "a Reply of MaxNote + 1", of(2, kept(1, 0, false, "", 1, long(api.MaxNote+1))), api.ErrArg)
	for code, want := range []api.Errno{api.ErrArg, api.OK, api.OK, api.ErrArg} {
		wantCheck(t, "a code", of(2, kept(1, 0, false, "", code, "")), want)
		wantCheck(t, "a code of an undo", of(2, kept(1, 0, true, "", code, "")), want)
	}
}

// allKeys returns elements for all keys that can be made from these orders and steps, in the order of the keys.
func allKeys(orders []uint32, steps []int) []api.Kept {
	var l []api.Kept
	for _, order := range orders {
		for _, step := range steps {
			l = append(l, plain(order, step, false), plain(order, step, true))
		}
	}
	return l
}

// Lists of two and of three keys are valid exactly if each key is ahead of the next one.
func TestCheckOfAllPairsAndTriples(t *testing.T) {
	l := allKeys([]uint32{1, 2, 1 << 31, greatest}, []int{0, 1, 15})
	for i := range l {
		for j := range l {
			want := api.ErrArg
			if i < j {
				want = api.OK
			}
			wantCheck(t, "a pair", of(2, l[i], l[j]), want)
		}
	}
	l = allKeys([]uint32{1, 2}, []int{0, 1})
	for i := range l {
		for j := range l {
			for k := range l {
				want := api.ErrArg
				if i < j && j < k {
					want = api.OK
				}
				wantCheck(t, "a triple", of(2, l[i], l[j], l[k]), want)
			}
		}
	}
}

func TestSee(t *testing.T) {
	for _, x := range ordinary() {
		for _, epoch := range []uint32{1, 2, 100, greatest} {
			x.f.Epoch = epoch
			wantSee(t, x.name+", the same", x.f, epoch, x.f, api.OK)
			wantSee(t, x.name+", the greatest", x.f, greatest, api.Fence{Epoch: greatest, L: x.f.L}, api.OK)
			wantSee(t, x.name+", below", x.f, epoch-1, api.Fence{}, api.ErrStale)
			wantSee(t, x.name+", 0", x.f, 0, api.Fence{}, api.ErrStale)
			if epoch < greatest {
				wantSee(t, x.name+", above", x.f, epoch+1, api.Fence{Epoch: epoch + 1, L: x.f.L}, api.OK)
				wantSee(t, x.name+", the greatest one below", of(greatest, x.f.L...), greatest-1, api.Fence{}, api.ErrStale)
			}
		}
		x.f.Epoch = 0
		wantSee(t, x.name+", 0 of 0", x.f, 0, x.f, api.OK)
		wantSee(t, x.name+", 1 of 0", x.f, 1, api.Fence{Epoch: 1, L: x.f.L}, api.OK)
	}
}

func TestFindOfKeysThatAreThere(t *testing.T) {
	for _, x := range ordinary() {
		for _, k := range x.f.L {
			wantFind(t, x.name, x.f, k.Order, k.Step, k.Undo, k, true)
		}
	}
}

func TestFindOfOtherKeys(t *testing.T) {
	for _, x := range []struct {
		name  string
		order uint32
		step  int
		undo  bool
	}{
		{"ahead of the first, by Order", 1, 1, false},
		{"ahead of the first, by Step", 2, 0, true},
		{"between two, by Step", 2, 2, false},
		{"between two, by Undo", 2, 3, true},
		{"between two, by Order", 3, 1, false},
		{"between two, ahead of an undo", 4, 0, false},
		{"between two, the step before", 4, 14, true},
		{"between two, behind the last step", 4, 15, true},
		{"between two, the order before", 6, 0, false},
		{"between two, the same order", 7, 1, false},
		{"ahead of the last, by Undo", 7, 2, false},
		{"behind the last, by Step", 7, 3, false},
		{"behind the last, by Order", 8, 0, false},
		{"the greatest", greatest, 15, true},
		{"Order 0", 0, 0, false},
		{"Order 0, with the last key", 0, 2, true},
		{"a Step of -1", 2, -1, false},
		{"a Step of MaxSteps", 4, 16, false},
		{"the least Step", 2, math.MinInt, false},
		{"the greatest Step", 7, math.MaxInt, true},
		{"a Step that is there in its lower byte", 2, 256 + 1, false},
		{"a Step that is there in its lower half", 2, 1<<32 + 1, false},
	} {
		wantFind(t, x.name, some(), x.order, x.step, x.undo, api.Kept{}, false)
		wantFind(t, x.name+", empty", of(5), x.order, x.step, x.undo, api.Kept{}, false)
	}
}

// The keys of full lie one behind the other; without one of them it is found no more, and all others are.
func TestFindWithoutOne(t *testing.T) {
	all := full(api.MaxKept, "asked", "reply")
	for i, missing := range all.L {
		f := of(5, append(append([]api.Kept{}, all.L[:i]...), all.L[i+1:]...)...)
		wantFind(t, "the one that is missing", f, missing.Order, missing.Step, missing.Undo, api.Kept{}, false)
		for _, k := range f.L {
			if found, ok := fence.Find(f, k.Order, k.Step, k.Undo); !ok || !sameKept(found, k) {
				t.Errorf("without %v: Find of %v: %v, %t", missing, k, found, ok)
			}
		}
	}
}

// No function does anything with a fence that is not valid, even if the element that it needs is.
func TestBrokenFences(t *testing.T) {
	for _, x := range broken() {
		requests := []api.Note{{}, request(9, 9, 0, false, "a"), request(1, 1, 0, true, "a"), request(9, 2, 1, false, "hold")}
		for _, k := range x.f.L[:min(len(x.f.L), 12)] {
			requests = append(requests, request(9, k.Order, k.Step, k.Undo, string(k.Asked)), request(9, k.Order, k.Step, !k.Undo, "b"))
		}
		for _, n := range requests {
			wantSee(t, x.name, x.f, n.Epoch, api.Fence{}, api.ErrArg)
			wantFind(t, x.name, x.f, n.Order, n.Step, n.Undo, api.Kept{}, false)
			wantAsk(t, x.name, x.f, n, 0, api.Kept{}, api.ErrArg)
			for code := range 4 {
				wantKeep(t, x.name, x.f, n, code, "r", api.Fence{}, api.ErrArg)
			}
		}
		wantSee(t, x.name, x.f, greatest, api.Fence{}, api.ErrArg)
		wantPut(t, x.name, x.f, nil, api.ErrArg)
	}
}

// A nil slice and an empty one are equivalent.
func TestEmptySlices(t *testing.T) {
	for _, empty := range [][]byte{nil, {}, make([]byte, 0, 9)} {
		for _, l := range [][]api.Kept{nil, {}, make([]api.Kept, 0, 9)} {
			f, n := api.Fence{Epoch: 2, L: l}, request(2, 1, 0, false, "")
			n.Data, n.Key = empty, empty
			wantAsSaid(t, "an empty fence", f, n, api.Done, "")
			wantGet(t, "an empty fence", bytesOf(f), f, api.OK)
			f.L = append(f.L, api.Kept{Order: 1, Asked: empty, Code: api.Done, Reply: empty})
			for _, other := range [][]byte{nil, {}, make([]byte, 0, 9)} {
				n.Data = other
				wantAsSaid(t, "empty texts", f, n, api.Done, "")
				wantAsk(t, "empty texts", f, n, api.ActAgain, f.L[0], api.OK)
				n.Undo = true
				wantAsSaid(t, "the undo, with empty texts", f, n, api.Done, "")
				n.Undo = false
				if g, err := fence.Keep(api.Fence{}, n, api.Done, empty); err != api.OK || !same(g, f) {
					t.Errorf("Keep with empty texts: %v, %d", g, err)
				}
			}
			wantGet(t, "empty texts", bytesOf(f), f, api.OK)
		}
	}
}
