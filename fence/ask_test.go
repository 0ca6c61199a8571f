package fence_test

import (
	"math"
	"testing"

	"drayage/api"
)

// noRequests returns notes that are no requests, for one reason each; without that they would ask some for the first step of its order 2.
func noRequests() map[string]api.Note {
	with := func(change func(n *api.Note)) api.Note {
		n := request(5, 2, 1, false, "hold")
		change(&n)
		return n
	}
	return map[string]api.Note{
		"nothing":                     {},
		"kind 0":                      with(func(n *api.Note) { n.Kind = 0 }),
		"kind -1":                     with(func(n *api.Note) { n.Kind = -1 }),
		"kind 14":                     with(func(n *api.Note) { n.Kind = 14 }),
		"a kind that is 7 at its end": with(func(n *api.Note) { n.Kind = 256 + 7 }),
		"a NoteDone":                  {Kind: api.NoteDone, Epoch: 5, Order: 2, Step: 1, Data: []byte("hold")},
		"a NoteDone with a code":      {Kind: api.NoteDone, Epoch: 5, Order: 2, Step: 1, Code: 1, Data: []byte("hold")},
		"a NoteFence":                 {Kind: api.NoteFence, Epoch: 5, Order: 2, Step: 1},
		"a NoteSubmit":                {Kind: api.NoteSubmit, Key: []byte("k"), Data: []byte("hold")},
		"a NoteShip":                  {Kind: api.NoteShip, Epoch: 5, Data: []byte("hold")},
		"a NoteReply":                 {Kind: api.NoteReply, Order: 2, Data: []byte("hold")},
		"an Old":                      with(func(n *api.Note) { n.Old = 1 }),
		"an Lsn":                      with(func(n *api.Note) { n.Lsn = 1 }),
		"a Tick":                      with(func(n *api.Note) { n.Tick = 1 }),
		"a Code":                      with(func(n *api.Note) { n.Code = 1 }),
		"a Key":                       with(func(n *api.Note) { n.Key = []byte("k") }),
		"a Step of -1":                with(func(n *api.Note) { n.Step = -1 }),
		"a Step of MaxSteps":          with(func(n *api.Note) { n.Step = api.MaxSteps }),
		"a Step of 257":               with(func(n *api.Note) { n.Step = 257 }),
		"the least Step":              with(func(n *api.Note) { n.Step = math.MinInt }),
		"Data of MaxNote + 1":         with(func(n *api.Note) { n.Data = make([]byte, api.MaxNote+1) }),
		"an Epoch of 0":               with(func(n *api.Note) { n.Epoch = 0 }),
		"an Order of 0":               with(func(n *api.Note) { n.Order = 0 }),
		"an Order of 0, of an undo":   with(func(n *api.Note) { n.Order, n.Undo = 0, true }),
	}
}

func TestNoRequests(t *testing.T) {
	for name, n := range noRequests() {
		for _, x := range ordinary() {
			wantAsk(t, name, x.f, n, 0, api.Kept{}, api.ErrArg)
			for code := range 4 {
				wantKeep(t, name, x.f, n, code, "r", api.Fence{}, api.ErrArg)
			}
		}
		// Whatever else applies comes after that: an old epoch, a key that is there, with other data too, a fence that is full.
		for _, f := range []api.Fence{{Epoch: greatest}, {Epoch: greatest, L: some().L}, full(api.MaxKept, "a", "r"), {Epoch: 9, L: full(api.MaxKept, "a", "r").L}} {
			wantAsk(t, name, f, n, 0, api.Kept{}, api.ErrArg)
			wantKeep(t, name, f, n, api.Done, "r", api.Fence{}, api.ErrArg)
		}
	}
}

// asks are requests to some, which has the epoch 5.
var asks = []struct {
	name  string
	order uint32
	step  int
	undo  bool
	data  string
	act   int
	err   api.Errno
}{
	{"a forward step that is Done", 2, 4, false, "", api.ActAgain, api.OK},
	{"a forward step that is Refused", 2, 3, false, "ship", api.ActAgain, api.OK},
	{"a forward step that is Done and undone", 2, 1, false, "hold", api.ActAgain, api.OK},
	{"a forward step that is Refused and undone", 7, 0, false, "pay", api.ActAgain, api.OK},
	{"the last step", 4, 15, false, "pay", api.ActAgain, api.OK},
	{"an undo that is Done", 2, 1, true, "free", api.ActAgain, api.OK},
	{"an undo that is Done, alone", 4, 0, true, "void", api.ActAgain, api.OK},
	{"an undo that is Refused", 7, 2, true, "cancel", api.ActAgain, api.OK},

	{"other data", 2, 4, false, "x", 0, api.ErrClash},
	{"no data", 2, 3, false, "", 0, api.ErrClash},
	{"more data", 2, 3, false, "ship.", 0, api.ErrClash},
	{"less data", 2, 3, false, "shi", 0, api.ErrClash},
	{"data that differs at the end", 2, 3, false, "shiP", 0, api.ErrClash},
	{"the data of the undo", 2, 1, false, "free", 0, api.ErrClash},
	{"the data of the forward step", 2, 1, true, "hold", 0, api.ErrClash},
	{"the reply as data", 2, 1, false, "held", 0, api.ErrClash},
	{"other data of an undo, alone", 4, 0, true, "x", 0, api.ErrClash},
	{"other data of what is Refused and undone", 7, 0, false, "x", 0, api.ErrClash},

	{"a forward step whose undo is Done", 4, 0, false, "void", api.ActRefuse, api.OK},
	{"a forward step whose undo is Done, without data", 4, 0, false, "", api.ActRefuse, api.OK},
	{"a forward step whose undo is Refused", 7, 2, false, "cancel", api.ActRefuse, api.OK},

	{"an undo without its forward step", 2, 0, true, "", api.ActEmpty, api.OK},
	{"an undo without its forward step, between others", 2, 2, true, "x", api.ActEmpty, api.OK},
	{"an undo in an order that is not there", 3, 1, true, "free", api.ActEmpty, api.OK},
	{"an undo of a step that is Refused", 2, 3, true, "ship", api.ActEmpty, api.OK},

	{"an undo of a step that is Done", 2, 4, true, "", api.ActDo, api.OK},
	{"an undo of the last step, which is Done", 4, 15, true, "x", api.ActDo, api.OK},
	{"a new step of an order", 2, 2, false, "hold", api.ActDo, api.OK},
	{"a new step between orders", 4, 14, false, "", api.ActDo, api.OK},
	{"a new order", 3, 1, false, "hold", api.ActDo, api.OK},
	{"a new order, ahead of all", 1, 1, false, "hold", api.ActDo, api.OK},
	{"a new order, behind all", 8, 0, false, "hold", api.ActDo, api.OK},
	{"the longest data", 8, 0, false, long(api.MaxNote), api.ActDo, api.OK},
	{"the greatest order and step", greatest, 15, false, "hold", api.ActDo, api.OK},
}

func TestAsk(t *testing.T) {
	for _, x := range asks {
		k := api.Kept{}
		if x.act == api.ActAgain {
			k, _ = findByTheWords(some(), x.order, x.step, x.undo)
		}
		for _, epoch := range []uint32{5, 6, 1 << 31, greatest} {
			wantAsk(t, x.name, some(), request(epoch, x.order, x.step, x.undo, x.data), x.act, k, x.err)
		}
		// An old epoch comes before the rest.
		for epoch := uint32(1); epoch < 5; epoch++ {
			wantAsk(t, x.name+", stale", some(), request(epoch, x.order, x.step, x.undo, x.data), 0, api.Kept{}, api.ErrStale)
		}
		wantAsk(t, x.name+", epoch 0", some(), request(0, x.order, x.step, x.undo, x.data), 0, api.Kept{}, api.ErrArg)
		wantAsk(t, x.name+", stale by one", of(greatest, some().L...), request(greatest-1, x.order, x.step, x.undo, x.data), 0, api.Kept{}, api.ErrStale)
	}
}

// A fence that has seen no epoch yet has nothing against the first one.
func TestAskFirstEpoch(t *testing.T) {
	wantAsk(t, "epoch 1 of 0", api.Fence{}, request(1, 1, 0, false, "a"), api.ActDo, api.Kept{}, api.OK)
	wantAsk(t, "epoch 0 of 0", api.Fence{}, request(0, 1, 0, false, "a"), 0, api.Kept{}, api.ErrArg)
	wantAsk(t, "an undo in epoch 1 of 0", api.Fence{}, request(1, 1, 0, true, "a"), api.ActEmpty, api.Kept{}, api.OK)
}

func TestKeep(t *testing.T) {
	for _, x := range asks {
		for code := -1; code <= 4; code++ {
			want := api.OK
			switch {
			case x.err != api.OK:
				want = x.err
			case code < 1 || code > 2, x.act == api.ActRefuse && code == api.Done, x.act == api.ActEmpty && code == api.Refused:
				want = api.ErrArg
			case x.act == api.ActAgain:
				want = api.ErrTwice
			}
			for _, epoch := range []uint32{5, 6, greatest} {
				n := request(epoch, x.order, x.step, x.undo, x.data)
				g, err := keepByTheWords(some(), n, code, []byte("r"))
				if err != want {
					t.Fatalf("%s, code %d: the model says %d, want %d", x.name, code, err, want)
				}
				wantKeep(t, x.name, some(), n, code, "r", g, want)
			}
			wantKeep(t, x.name+", stale", some(), request(4, x.order, x.step, x.undo, x.data), code, "r", api.Fence{}, api.ErrStale)
			wantKeep(t, x.name+", epoch 0", some(), request(0, x.order, x.step, x.undo, x.data), code, "r", api.Fence{}, api.ErrArg)
			wantKeep(t, x.name+", stale, with a long reply", some(), request(4, x.order, x.step, x.undo, x.data), code, long(256), api.Fence{}, api.ErrStale)
			if want == api.OK || want == api.ErrTwice {
				want = api.ErrArg
			}
			wantKeep(t, x.name+", with a long reply", some(), request(5, x.order, x.step, x.undo, x.data), code, long(256), api.Fence{}, want)
		}
	}
}

// What Keep makes of a fence, written out.
func TestKeepInItsPlace(t *testing.T) {
	a, b, c := plain(3, 2, false), plain(3, 2, true), plain(5, 0, false)
	f := of(4, a, b, c)
	for _, x := range []struct {
		name string
		n    api.Note
		code int
		want []api.Kept
	}{
		{"ahead of the first, by Order", request(4, 2, 9, false, "d"), 1, []api.Kept{kept(2, 9, false, "d", 1, "s"), a, b, c}},
		{"ahead of the first, by Order, undone", request(4, 2, 9, true, "d"), 1, []api.Kept{kept(2, 9, true, "d", 1, "s"), a, b, c}},
		{"ahead of the first, by Step", request(5, 3, 1, false, "d"), 2, []api.Kept{kept(3, 1, false, "d", 2, "s"), a, b, c}},
		{"behind an undo, by Step", request(6, 3, 3, false, "d"), 1, []api.Kept{a, b, kept(3, 3, false, "d", 1, "s"), c}},
		{"between orders", request(7, 4, 0, false, ""), 2, []api.Kept{a, b, kept(4, 0, false, "", 2, "s"), c}},
		{"behind the last, by Undo", request(8, 5, 0, true, "d"), 2, []api.Kept{a, b, c, kept(5, 0, true, "d", 2, "s")}},
		{"behind the last, by Step", request(9, 5, 1, false, "d"), 1, []api.Kept{a, b, c, kept(5, 1, false, "d", 1, "s")}},
		{"behind the last, by Order", request(greatest, 6, 0, false, "d"), 1, []api.Kept{a, b, c, kept(6, 0, false, "d", 1, "s")}},
	} {
		wantKeep(t, x.name, f, x.n, x.code, "s", of(x.n.Epoch, x.want...), api.OK)
	}
	wantKeep(t, "ahead of an undo", of(4, b, c), request(4, 3, 2, false, "d"), 2, "s", of(4, kept(3, 2, false, "d", 2, "s"), b, c), api.OK)
	wantKeep(t, "the first", api.Fence{}, request(1, 1, 0, false, ""), 1, "", of(1, kept(1, 0, false, "", 1, "")), api.OK)
	wantKeep(t, "the longest texts", api.Fence{}, request(1, 1, 0, false, long(255)), 2, long(255), of(1, kept(1, 0, false, long(255), 2, long(255))), api.OK)
}

func TestKeepReplies(t *testing.T) {
	for _, n := range []int{0, 1, 254, api.MaxNote} {
		wantKeep(t, "a reply", of(2), request(2, 1, 0, false, "a"), 1, long(n), of(2, kept(1, 0, false, "a", 1, long(n))), api.OK)
	}
	for _, n := range []int{api.MaxNote + 1, 257, 512, 70000} {
		wantKeep(t, "a long reply", of(2), request(2, 1, 0, false, "a"), 1, long(n), api.Fence{}, api.ErrArg)
	}
}

func TestKeepCodes(t *testing.T) {
	for _, code := range []int{math.MinInt, -255, -1, 0, 3, 255, 256, 257, 258, 1<<32 + 1, 1<<32 + 2, math.MaxInt} {
		for _, x := range asks {
			want := x.err
			if want == api.OK {
				want = api.ErrArg
			}
			wantKeep(t, x.name, some(), request(5, x.order, x.step, x.undo, x.data), code, "r", api.Fence{}, want)
		}
	}
}

// The errors of a fence that is full come last.
func TestKeepInFullFence(t *testing.T) {
	f := full(api.MaxKept, "a", "r")
	last := f.L[api.MaxKept-1] // of order 7, undone
	ahead := last.Step + 1     // not there yet
	for _, x := range []struct {
		name string
		n    api.Note
		code int
		size int
		want api.Errno
	}{
		{"a new step", request(5, 7, ahead, false, "a"), 1, 0, api.ErrFull},
		{"a new step, Refused", request(5, 7, ahead, false, "a"), 2, 255, api.ErrFull},
		{"a new step of a later epoch", request(9, 8, 0, false, "a"), 1, 0, api.ErrFull},
		{"an undo that has nothing to undo", request(5, 7, ahead, true, "a"), 1, 0, api.ErrFull},
		{"a new step with code 3", request(5, 7, ahead, false, "a"), 3, 0, api.ErrArg},
		{"a new step with a long reply", request(5, 7, ahead, false, "a"), 1, 256, api.ErrArg},
		{"an undo that has nothing to undo, Refused", request(5, 7, ahead, true, "a"), 2, 0, api.ErrArg},
		{"a new step of an old epoch", request(4, 7, ahead, false, "a"), 1, 0, api.ErrStale},
		{"a key that is there", request(5, 7, last.Step, true, "a"), 1, 0, api.ErrTwice},
		{"a key that is there, with code 0", request(5, 7, last.Step, true, "a"), 0, 0, api.ErrArg},
		{"a key that is there, with other data", request(5, 7, last.Step, true, "b"), 1, 0, api.ErrClash},
	} {
		wantKeep(t, x.name, f, x.n, x.code, long(x.size), api.Fence{}, x.want)
	}
	undone := of(5, append([]api.Kept{}, f.L...)...)
	undone.L[0] = plain(1, 0, true)
	undone.L = append(undone.L[:1], undone.L[2:]...)
	wantKeep(t, "MaxKept - 1", undone, request(5, 1, 0, false, "z"), 2, "", of(5, append([]api.Kept{kept(1, 0, false, "z", 2, "")}, undone.L...)...), api.OK)
	undone.L = append(undone.L, plain(greatest, 0, false))
	wantKeep(t, "a step that was undone", undone, request(5, 1, 0, false, "z"), 2, "", api.Fence{}, api.ErrFull)
	wantKeep(t, "a step that was undone, Done", undone, request(5, 1, 0, false, "z"), 1, "", api.Fence{}, api.ErrArg)
}

// All fences over the four keys of two steps, with all sorts of requests.
func TestAllSmallFences(t *testing.T) {
	keys := allKeys([]uint32{2}, []int{0, 1})
	for states := range 81 {
		f := api.Fence{Epoch: 2}
		for _, k := range keys {
			if k.Code = states % 3; k.Code != 0 {
				f.L = append(f.L, k)
			}
			states /= 3
		}
		for epoch := range uint32(4) {
			for order := uint32(0); order <= 3; order++ {
				for step := -1; step <= 2; step++ {
					for _, data := range []string{"", "a", "b"} {
						for code := range 4 {
							wantAsSaid(t, "small", f, request(epoch, order, step, false, data), code, "s")
							wantAsSaid(t, "small", f, request(epoch, order, step, true, data), code, "s")
						}
					}
				}
			}
		}
	}
}
