package fence_test

import (
	"bytes"
	"encoding/binary"
	"math"
	"math/rand"
	"slices"
	"strings"
	"testing"

	"drayage/api"
	"drayage/fence"
)

const greatest = math.MaxUint32 // of epochs and of orders

// source gives the same numbers in every run, so that a failure can be repeated.
func source() *rand.Rand { return rand.New(rand.NewSource(8)) }

func kept(order uint32, step int, undo bool, asked string, code int, reply string) api.Kept {
	return api.Kept{Order: order, Step: step, Undo: undo, Asked: []byte(asked), Code: code, Reply: []byte(reply)}
}

// plain returns an element of which only the key matters.
func plain(order uint32, step int, undo bool) api.Kept {
	return kept(order, step, undo, "a", api.Done, "r")
}

func of(epoch uint32, l ...api.Kept) api.Fence { return api.Fence{Epoch: epoch, L: l} }

func request(epoch, order uint32, step int, undo bool, data string) api.Note {
	return api.Note{Kind: api.NoteStep, Epoch: epoch, Order: order, Step: step, Undo: undo, Data: []byte(data)}
}

func long(n int) string { return strings.Repeat("x", n) }

// full returns a fence with n elements, whose keys use all orders up to the last one, all steps and both directions.
func full(n int, asked, reply string) api.Fence {
	f := api.Fence{Epoch: 5}
	for i := range n {
		f.L = append(f.L, kept(uint32(i/32+1), i/2%16, i%2 == 1, asked, i%3%2+1, reply))
	}
	return f
}

// some returns a fence with elements of each sort, with gaps ahead of them, between them and behind them.
func some() api.Fence {
	return of(5,
		kept(2, 1, false, "hold", api.Done, "held"),
		kept(2, 1, true, "free", api.Done, ""),
		kept(2, 3, false, "ship", api.Refused, "none"),
		kept(2, 4, false, "", api.Done, "day 4"),
		kept(4, 0, true, "void", api.Done, ""),
		kept(4, 15, false, "pay", api.Done, "paid"),
		kept(7, 0, false, "pay", api.Refused, ""),
		kept(7, 0, true, "back", api.Done, ""),
		kept(7, 2, true, "cancel", api.Refused, "too late"),
	)
}

type sample struct {
	name string
	f    api.Fence
}

// ordinary returns valid fences.
func ordinary() []sample {
	return []sample{
		{"empty", api.Fence{}},
		{"empty, with an epoch", of(3)},
		{"empty, with the greatest epoch", of(greatest)},
		{"one", of(2, kept(1, 0, false, "a", api.Done, "r"))},
		{"one, an undo", of(2, kept(1, 0, true, "a", api.Refused, "r"))},
		{"one, without texts", of(0, kept(1, 0, false, "", api.Done, ""))},
		{"one, the longest texts", of(2, kept(1, 15, false, long(255), api.Done, long(255)))},
		{"one, the greatest numbers", of(greatest, kept(greatest, 15, true, "a", api.Refused, "r"))},
		{"rising by Order", of(2, plain(1, 9, true), plain(2, 0, false), plain(256, 0, false), plain(greatest, 0, false))},
		{"rising by Step", of(2, plain(1, 0, true), plain(1, 1, false), plain(1, 2, false), plain(1, 15, false))},
		{"rising by Undo", of(2, plain(1, 0, false), plain(1, 0, true))},
		{"some", some()},
		{"MaxKept - 1", full(api.MaxKept-1, "asked", "reply")},
		{"MaxKept", full(api.MaxKept, "asked", "reply")},
		{"MaxKept, the longest texts", full(api.MaxKept, long(255), long(255))},
	}
}

// broken returns fences that are not valid, for one reason each.
func broken() []sample {
	with := func(change func(f *api.Fence)) api.Fence {
		f := some()
		change(&f)
		return f
	}
	all := []sample{
		{"the same key", of(2, plain(1, 0, false), plain(1, 0, false))},
		{"the same key, undone", of(2, plain(1, 0, true), plain(1, 0, true))},
		{"the same key with other texts", of(2, kept(1, 0, false, "a", 1, "r"), kept(1, 0, false, "b", 2, "s"))},
		{"falling by Order", of(2, plain(2, 0, false), plain(1, 0, false))},
		{"falling by Order, rising by Step", of(2, plain(2, 0, false), plain(1, 1, false))},
		{"falling by Order, rising by Undo", of(2, plain(2, 0, false), plain(1, 0, true))},
		{"falling by a great Order", of(2, plain(greatest, 0, false), plain(1, 0, false))},
		{"falling by Step", of(2, plain(1, 1, false), plain(1, 0, false))},
		{"falling by Step, rising by Undo", of(2, plain(1, 1, false), plain(1, 0, true))},
		{"falling by Undo", of(2, plain(1, 0, true), plain(1, 0, false))},
		{"falling at the end", with(func(f *api.Fence) { f.L = append(f.L, plain(7, 2, false)) })},
		{"falling at the beginning", with(func(f *api.Fence) { f.L = append([]api.Kept{plain(2, 2, false)}, f.L...) })},
		{"an Order of 0", of(2, plain(0, 0, false))},
		{"an Order of 0, with a Step", of(2, plain(0, 1, false))},
		{"an Order of 0, undone", of(2, plain(0, 0, true))},
		{"MaxKept + 1", full(api.MaxKept+1, "asked", "reply")},
		{"256 elements", full(256, "", "")},
		{"257 elements", full(257, "", "")},
		{"1000 elements", full(1000, "", "")},
	}
	for _, step := range []int{math.MinInt, -256, -1, api.MaxSteps, 255, 256, 1 << 32, math.MaxInt} {
		all = append(all, sample{"a Step out of bounds", of(2, plain(1, step, false))})
	}
	for _, code := range []int{math.MinInt, -1, 0, 3, 255, 256, 257, 1<<32 + 1, math.MaxInt} {
		all = append(all, sample{"another Code", of(2, kept(1, 0, false, "a", code, "r"))})
	}
	for _, n := range []int{256, 257, 511, 512, 70000} {
		all = append(all, sample{"a long Asked", of(2, kept(1, 0, false, long(n), 1, "r"))})
		all = append(all, sample{"a long Reply", of(2, kept(1, 0, false, "a", 1, long(n)))})
	}
	// What is wrong may be wrong in any element.
	for i := range some().L {
		all = append(all,
			sample{"an Order of 0 among others", with(func(f *api.Fence) { f.L[i].Order = 0 })},
			sample{"a Step of MaxSteps among others", with(func(f *api.Fence) { f.L[i].Step = 16 })},
			sample{"a Step of -1 among others", with(func(f *api.Fence) { f.L[i].Step = -1 })},
			sample{"a Code of 0 among others", with(func(f *api.Fence) { f.L[i].Code = 0 })},
			sample{"a Code of 3 among others", with(func(f *api.Fence) { f.L[i].Code = 3 })},
			sample{"a long Asked among others", with(func(f *api.Fence) { f.L[i].Asked = make([]byte, 256) })},
			sample{"a long Reply among others", with(func(f *api.Fence) { f.L[i].Reply = make([]byte, 256) })},
			sample{"a key twice among others", with(func(f *api.Fence) { f.L = slices.Insert(f.L, i, f.L[i]) })},
		)
	}
	return all
}

func sameKept(a, b api.Kept) bool {
	return a.Order == b.Order && a.Step == b.Step && a.Undo == b.Undo && a.Code == b.Code && bytes.Equal(a.Asked, b.Asked) && bytes.Equal(a.Reply, b.Reply)
}

func same(a, b api.Fence) bool { return a.Epoch == b.Epoch && slices.EqualFunc(a.L, b.L, sameKept) }

// copyOf shares no memory with f.
func copyOf(f api.Fence) api.Fence {
	c := api.Fence{Epoch: f.Epoch}
	for _, k := range f.L {
		c.L = append(c.L, kept(k.Order, k.Step, k.Undo, string(k.Asked), k.Code, string(k.Reply)))
	}
	return c
}

func isAhead(a, b api.Kept) bool {
	if a.Order != b.Order {
		return a.Order < b.Order
	}
	if a.Step != b.Step {
		return a.Step < b.Step
	}
	return !a.Undo && b.Undo
}

func isValid(f api.Fence) bool {
	for i, k := range f.L {
		if k.Order == 0 || k.Step < 0 || k.Step > 15 || len(k.Asked) > 255 || len(k.Reply) > 255 || k.Code != 1 && k.Code != 2 {
			return false
		}
		if i > 0 && !isAhead(f.L[i-1], k) {
			return false
		}
	}
	return len(f.L) <= 200
}

func isRequest(n api.Note) bool {
	return n.Kind == 7 && n.Epoch > 0 && n.Order > 0 && n.Step >= 0 && n.Step <= 15 && len(n.Data) <= 255 &&
		n.Old == 0 && n.Lsn == 0 && n.Tick == 0 && n.Code == 0 && len(n.Key) == 0
}

func findByTheWords(f api.Fence, order uint32, step int, undo bool) (api.Kept, bool) {
	if !isValid(f) {
		return api.Kept{}, false
	}
	for _, k := range f.L {
		if k.Order == order && k.Step == step && k.Undo == undo {
			return k, true
		}
	}
	return api.Kept{}, false
}

func seeByTheWords(f api.Fence, epoch uint32) (api.Fence, api.Errno) {
	switch {
	case !isValid(f):
		return api.Fence{}, api.ErrArg
	case epoch < f.Epoch:
		return api.Fence{}, api.ErrStale
	}
	f.Epoch = epoch
	return f, api.OK
}

func askByTheWords(f api.Fence, n api.Note) (int, api.Kept, api.Errno) {
	k, isThere := findByTheWords(f, n.Order, n.Step, n.Undo)
	_, isUndone := findByTheWords(f, n.Order, n.Step, true)
	forward, wasAsked := findByTheWords(f, n.Order, n.Step, false)
	switch {
	case !isValid(f) || !isRequest(n):
		return 0, api.Kept{}, api.ErrArg
	case n.Epoch < f.Epoch:
		return 0, api.Kept{}, api.ErrStale
	case isThere && string(k.Asked) != string(n.Data):
		return 0, api.Kept{}, api.ErrClash
	case isThere:
		return api.ActAgain, k, api.OK
	case !n.Undo && isUndone:
		return api.ActRefuse, api.Kept{}, api.OK
	case n.Undo && !wasAsked, n.Undo && forward.Code == api.Refused:
		return api.ActEmpty, api.Kept{}, api.OK
	}
	return api.ActDo, api.Kept{}, api.OK
}

func keepByTheWords(f api.Fence, n api.Note, code int, reply []byte) (api.Fence, api.Errno) {
	act, _, err := askByTheWords(f, n)
	switch {
	case err != api.OK:
		return api.Fence{}, err
	case code != 1 && code != 2, len(reply) > 255, act == api.ActRefuse && code != 2, act == api.ActEmpty && code != 1:
		return api.Fence{}, api.ErrArg
	case act == api.ActAgain:
		return api.Fence{}, api.ErrTwice
	case len(f.L) == 200:
		return api.Fence{}, api.ErrFull
	}
	added := kept(n.Order, n.Step, n.Undo, string(n.Data), code, string(reply))
	g := api.Fence{Epoch: n.Epoch}
	for _, k := range f.L {
		if isAhead(k, added) {
			g.L = append(g.L, k)
		}
	}
	g.L = append(g.L, added)
	for _, k := range f.L {
		if isAhead(added, k) {
			g.L = append(g.L, k)
		}
	}
	return g, api.OK
}

// bytesOf writes a fence as the chapter says it, whether it is valid or not.
func bytesOf(f api.Fence) []byte {
	b := binary.BigEndian.AppendUint32(nil, f.Epoch)
	b = append(b, byte(len(f.L)))
	for _, k := range f.L {
		b = binary.BigEndian.AppendUint32(b, k.Order)
		b = append(b, byte(k.Step), map[bool]byte{true: 1}[k.Undo], byte(k.Code))
		b = append(append(b, byte(len(k.Asked))), k.Asked...)
		b = append(append(b, byte(len(k.Reply))), k.Reply...)
	}
	return b
}

func wantCheck(t *testing.T, name string, f api.Fence, want api.Errno) {
	t.Helper()
	before := copyOf(f)
	if err := fence.Check(f); err != want {
		t.Errorf("%s: Check(%v): %d, want %d", name, f, err, want)
	}
	wantUnchanged(t, name, f, before)
}

func wantSee(t *testing.T, name string, f api.Fence, epoch uint32, want api.Fence, wantErr api.Errno) {
	t.Helper()
	before := copyOf(f)
	if g, err := fence.See(f, epoch); err != wantErr || !same(g, want) {
		t.Errorf("%s: See(%v, %d): %v, %d, want %v, %d", name, f, epoch, g, err, want, wantErr)
	}
	wantUnchanged(t, name, f, before)
}

func wantFind(t *testing.T, name string, f api.Fence, order uint32, step int, undo bool, want api.Kept, wantOk bool) {
	t.Helper()
	before := copyOf(f)
	if k, ok := fence.Find(f, order, step, undo); ok != wantOk || !sameKept(k, want) {
		t.Errorf("%s: Find(%v, %d, %d, %t): %v, %t, want %v, %t", name, f, order, step, undo, k, ok, want, wantOk)
	}
	wantUnchanged(t, name, f, before)
}

func wantAsk(t *testing.T, name string, f api.Fence, n api.Note, wantAct int, want api.Kept, wantErr api.Errno) {
	t.Helper()
	before, data := copyOf(f), string(n.Data)
	if act, k, err := fence.Ask(f, n); act != wantAct || !sameKept(k, want) || err != wantErr {
		t.Errorf("%s: Ask(%v, %v): %d, %v, %d, want %d, %v, %d", name, f, n, act, k, err, wantAct, want, wantErr)
	}
	wantUnchanged(t, name, f, before)
	if string(n.Data) != data {
		t.Errorf("%s: the data was changed from %q to %q", name, data, n.Data)
	}
}

func wantKeep(t *testing.T, name string, f api.Fence, n api.Note, code int, reply string, want api.Fence, wantErr api.Errno) {
	t.Helper()
	before, data, given := copyOf(f), string(n.Data), []byte(reply)
	if g, err := fence.Keep(f, n, code, given); err != wantErr || !same(g, want) {
		t.Errorf("%s: Keep(%v, %v, %d, %q): %v, %d, want %v, %d", name, f, n, code, reply, g, err, want, wantErr)
	}
	wantUnchanged(t, name, f, before)
	if string(n.Data) != data || string(given) != reply {
		t.Errorf("%s: the data or the reply was changed from %q, %q to %q, %q", name, data, reply, n.Data, given)
	}
}

func wantPut(t *testing.T, name string, f api.Fence, want []byte, wantErr api.Errno) {
	t.Helper()
	before := copyOf(f)
	if b, err := fence.Put(f); err != wantErr || !bytes.Equal(b, want) {
		t.Errorf("%s: Put(%v): %x, %d, want %x, %d", name, f, b, err, want, wantErr)
	}
	wantUnchanged(t, name, f, before)
}

func wantGet(t *testing.T, name string, b []byte, want api.Fence, wantErr api.Errno) {
	t.Helper()
	before := string(b)
	if f, err := fence.Get(b); err != wantErr || !same(f, want) {
		t.Errorf("%s: Get(%x): %v, %d, want %v, %d", name, b, f, err, want, wantErr)
	}
	if string(b) != before {
		t.Errorf("%s: the bytes were changed from %x to %x", name, before, b)
	}
}

func wantUnchanged(t *testing.T, name string, f, before api.Fence) {
	t.Helper()
	if !same(f, before) {
		t.Errorf("%s: the fence was changed from %v to %v", name, before, f)
	}
}

// wantAsSaid expects of all functions that take a fence what the chapter says about these arguments.
func wantAsSaid(t *testing.T, name string, f api.Fence, n api.Note, code int, reply string) {
	t.Helper()
	err, b := api.ErrArg, []byte(nil)
	if isValid(f) {
		err, b = api.OK, bytesOf(f)
	}
	wantCheck(t, name, f, err)
	wantPut(t, name, f, b, err)
	seen, err := seeByTheWords(f, n.Epoch)
	wantSee(t, name, f, n.Epoch, seen, err)
	k, ok := findByTheWords(f, n.Order, n.Step, n.Undo)
	wantFind(t, name, f, n.Order, n.Step, n.Undo, k, ok)
	act, k, err := askByTheWords(f, n)
	wantAsk(t, name, f, n, act, k, err)
	g, err := keepByTheWords(f, n, code, []byte(reply))
	wantKeep(t, name, f, n, code, reply, g, err)
}
