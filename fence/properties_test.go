package fence_test

import (
	"testing"

	"drayage/api"
	"drayage/fence"
)

type key struct {
	order uint32
	step  int
	undo  bool
}

// answer is what a participant has once answered to a key.
type answer struct {
	asked, reply string
	code         int
	act          int
}

// history is what happens to a participant, with all that it did from the beginning on.
type history struct {
	f       api.Fence
	answers map[key]answer
	done    map[key]int // how often a key was to be done, and was
	epoch   uint32      // the greatest that was accepted
	counts  [8]int      // how often each act came out, and from place 5 on: stale, clash, full
}

// begin returns the history of a participant that has the fence f.
func begin(f api.Fence) *history {
	h := &history{f: f, answers: map[key]answer{}, done: map[key]int{}, epoch: f.Epoch}
	for _, k := range f.L {
		h.answers[key{k.Order, k.Step, k.Undo}] = answer{asked: string(k.Asked), reply: string(k.Reply), code: k.Code}
	}
	return h
}

// serve does what a participant does with a request: it asks, and keeps the answer unless it is cut off before.
func (h *history) serve(t *testing.T, n api.Note, code int, reply string, cutOff bool) {
	t.Helper()
	at := key{n.Order, n.Step, n.Undo}
	was, isAnswered := h.answers[at]
	act, k, err := fence.Ask(h.f, n)
	switch {
	case err == api.ErrStale:
		if n.Epoch >= h.epoch {
			t.Errorf("epoch %d is stale, though %d is the greatest", n.Epoch, h.epoch)
		}
		h.counts[5]++
		return
	case n.Epoch < h.epoch:
		t.Errorf("epoch %d is accepted after %d: %d, %d", n.Epoch, h.epoch, act, err)
	case err == api.ErrClash:
		if !isAnswered || was.asked == string(n.Data) {
			t.Errorf("%v clashes with %v, %t", n, was, isAnswered)
		}
		h.counts[6]++
		return
	case err != api.OK:
		t.Errorf("Ask of %v: %d", n, err)
		return
	case isAnswered && (act != api.ActAgain || !sameKept(k, kept(n.Order, n.Step, n.Undo, was.asked, was.code, was.reply)) || was.asked != string(n.Data)):
		t.Errorf("%v was answered with %v, and gets %d, %v", n, was, act, k)
	case !isAnswered && (act == api.ActAgain || !sameKept(k, api.Kept{})):
		t.Errorf("%v was not answered, and gets %d, %v", n, act, k)
	}
	h.counts[act]++
	h.wantRightAct(t, at, act)
	if cutOff {
		return
	}
	h.keep(t, n, act, code, reply)
}

// wantRightAct expects that nothing is to be done that must not be done, nor anything else held back.
func (h *history) wantRightAct(t *testing.T, at key, act int) {
	t.Helper()
	opposite, hasOpposite := h.answers[key{at.order, at.step, !at.undo}]
	switch act {
	case api.ActDo:
		if h.done[at] > 0 {
			t.Errorf("%v is to be done twice", at)
		}
		if !at.undo && hasOpposite {
			t.Errorf("%v is to be done after its undo", at)
		}
		if at.undo && (!hasOpposite || opposite.code != api.Done) {
			t.Errorf("%v is to be done without its forward step: %v", at, opposite)
		}
	case api.ActRefuse:
		if at.undo || !hasOpposite {
			t.Errorf("%v is to be refused without its undo", at)
		}
	case api.ActEmpty:
		if !at.undo || hasOpposite && opposite.code == api.Done {
			t.Errorf("%v is empty, though its forward step is done", at)
		}
	}
}

// keep records the answer to a request for which Ask returned act.
func (h *history) keep(t *testing.T, n api.Note, act, code int, reply string) {
	t.Helper()
	at := key{n.Order, n.Step, n.Undo}
	switch act {
	case api.ActRefuse:
		code = api.Refused
	case api.ActEmpty:
		code = api.Done
	}
	g, err := fence.Keep(h.f, n, code, []byte(reply))
	switch {
	case act == api.ActAgain:
		if err != api.ErrTwice {
			t.Errorf("Keep of %v, which is there: %d", n, err)
		}
		h.see(t, n.Epoch)
		return
	case len(h.answers) == api.MaxKept:
		if err != api.ErrFull {
			t.Errorf("Keep of %v in a full fence: %d", n, err)
		}
		h.counts[7]++
		return
	case err != api.OK:
		t.Errorf("Keep of %v: %d", n, err)
		return
	}
	h.f, h.epoch = g, n.Epoch
	h.answers[at] = answer{string(n.Data), reply, code, act}
	if act == api.ActDo && code == api.Done {
		h.done[at]++
	}
}

func (h *history) see(t *testing.T, epoch uint32) {
	t.Helper()
	g, err := fence.See(h.f, epoch)
	if epoch < h.epoch {
		if err != api.ErrStale {
			t.Errorf("See of %d after %d: %d", epoch, h.epoch, err)
		}
		return
	}
	if err != api.OK || g.Epoch != epoch {
		t.Errorf("See of %d after %d: %v, %d", epoch, h.epoch, g, err)
	}
	h.f, h.epoch = g, epoch
}

// restart writes the fence down and reads it back.
func (h *history) restart(t *testing.T) {
	t.Helper()
	b, err := fence.Put(h.f)
	if err != api.OK {
		t.Errorf("Put of %v: %d", h.f, err)
	}
	g, err := fence.Get(b)
	if err != api.OK || !same(g, h.f) {
		t.Errorf("Get of Put of %v: %v, %d", h.f, g, err)
	}
	h.f = g
}

// wantAllThere expects that the fence has exactly what was answered, in the greatest epoch.
func (h *history) wantAllThere(t *testing.T) {
	t.Helper()
	if err := fence.Check(h.f); err != api.OK || h.f.Epoch != h.epoch || len(h.f.L) != len(h.answers) {
		t.Errorf("%v has not %d answers in epoch %d: %d", h.f, len(h.answers), h.epoch, err)
	}
	for at, was := range h.answers {
		if k, ok := fence.Find(h.f, at.order, at.step, at.undo); !ok || string(k.Asked) != was.asked || string(k.Reply) != was.reply || k.Code != was.code {
			t.Errorf("Find of %v: %v, %t, want %v", at, k, ok, was)
		}
		forward := h.answers[key{at.order, at.step, false}]
		if at.undo && was.act == api.ActDo && forward.code != api.Done {
			t.Errorf("%v took effect, but its forward step did not: %v", at, forward)
		}
	}
	for at, n := range h.done {
		if n > 1 {
			t.Errorf("%v took effect %d times", at, n)
		}
	}
}

// beginnings returns fences at which a history can begin.
func beginnings() []api.Fence {
	return []api.Fence{{}, some(), of(greatest - 3), full(api.MaxKept-6, "a", "r")}
}

// play goes on with a history for n requests; draw returns a number from 0 up to less than its argument.
func play(t *testing.T, h *history, n int, draw func(n int) int) {
	t.Helper()
	data := []string{"a", "a", "a", "a", "b", ""}
	for range n {
		epoch := h.epoch
		switch draw(8) {
		case 0:
			epoch++ // wraps round behind the greatest one: to 0, which is none
		case 1:
			epoch--
		}
		if epoch == 0 || epoch == greatest && h.epoch == 0 {
			epoch = max(h.epoch, 1)
		}
		request := request(epoch, uint32(1+draw(8)), draw(4), draw(2) == 1, data[draw(len(data))])
		h.serve(t, request, 1+draw(2), long(draw(3)), draw(6) == 0)
		switch draw(20) {
		case 0:
			h.restart(t)
		case 1:
			h.see(t, h.epoch+uint32(draw(3))-1)
		}
	}
	h.wantAllThere(t)
}

func TestAnyHistory(t *testing.T) {
	r := source()
	var counts [8]int
	for range 100 {
		for _, f := range beginnings() {
			h := begin(f)
			play(t, h, 150, r.Intn)
			for i, n := range h.counts {
				counts[i] += n
			}
			if t.Failed() {
				t.FailNow()
			}
		}
	}
	for i, n := range counts[1:] {
		if n < 1000 {
			t.Errorf("%v of each act, stale, clash and full: too few at place %d to tell", counts, i+1)
		}
	}
}

// An order goes forward and back, twice over, with every request sent twice: each key takes effect once.
func TestForwardAndBackTwice(t *testing.T) {
	h := begin(api.Fence{})
	for epoch := uint32(1); epoch <= 2; epoch++ {
		for i := range 2 * api.MaxSteps {
			step, undo := i, false
			if i >= api.MaxSteps {
				step, undo = 2*api.MaxSteps-1-i, true
			}
			h.serve(t, request(epoch, 7, step, undo, "a"), api.Done, "r", false)
			h.serve(t, request(epoch, 7, step, undo, "a"), api.Done, "again", false)
		}
	}
	h.wantAllThere(t)
	if h.counts[api.ActDo] != 32 || h.counts[api.ActAgain] != 96 || len(h.done) != 32 || h.epoch != 2 {
		t.Errorf("%v, %d effects, epoch %d", h.counts, len(h.done), h.epoch)
	}
}

// A fence is filled up, key by key from the last one to the first, and answers all of them in the end.
func TestFillFromBehind(t *testing.T) {
	h := begin(api.Fence{})
	for i := range api.MaxKept {
		h.serve(t, request(uint32(1+i), uint32(1000-i/16), 15-i%16, false, "a"), api.Done, "r", false)
	}
	h.wantAllThere(t)
	h.serve(t, request(greatest, 1, 0, false, "a"), api.Done, "r", false)
	if h.counts[api.ActDo] != api.MaxKept+1 || h.counts[7] != 1 || h.epoch != api.MaxKept {
		t.Errorf("%v, epoch %d", h.counts, h.epoch)
	}
	h.restart(t)
	h.wantAllThere(t)
	for i := range api.MaxKept {
		h.serve(t, request(api.MaxKept, uint32(1000-i/16), 15-i%16, false, "a"), api.Done, "s", false)
	}
	if h.counts[api.ActAgain] != api.MaxKept {
		t.Errorf("%v", h.counts)
	}
}

func FuzzHistory(f *testing.F) {
	f.Add(uint8(0), []byte("a step, and what comes behind it"))
	f.Add(uint8(3), []byte{0, 1, 1, 4, 0, 1, 1, 0, 3, 9, 1, 0, 2, 2})
	f.Fuzz(func(t *testing.T, beginning uint8, b []byte) {
		all := beginnings()
		at := 0
		draw := func(n int) int {
			if at == len(b) {
				return 0
			}
			at++
			return int(b[at-1]) % n
		}
		play(t, begin(all[int(beginning)%len(all)]), min(len(b)/8+1, 300), draw)
	})
}
