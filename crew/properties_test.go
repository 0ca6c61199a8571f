package crew_test

import (
	"bytes"
	"fmt"
	"slices"
	"testing"

	"drayage/api"
)

type key struct {
	order uint32
	step  int
	undo  bool
}

func keyOf(n api.Note) key { return key{n.Order, n.Step, n.Undo} }

// answer is what a crew has once answered to a key.
type answer struct {
	asked, reply string
	code         int
}

// history is what happens to a crew, held against the chapter's properties by the crew's own answers.
type history struct {
	both
	start   stores
	answers map[key]answer
	counts  map[string]int // how often each sort of answer came
}

func beginHistory(t *testing.T, s stores) history {
	t.Helper()
	return history{begin(t, s), s, map[key]answer{}, map[string]int{}}
}

// play serves a step, and expects that the answer and what the crew tells behind it keep the promises.
func (h history) play(t *testing.T, n api.Note) {
	t.Helper()
	epoch, effects, before, told := h.c.Epoch(), h.c.Effects(), h.story(), h.storesAndNotices()
	a := h.serve(t, n)
	sort := fmt.Sprint(a.Kind, " ", a.Code)
	if a.Kind != api.NoteDone {
		if h.story() != before {
			t.Errorf("%v was answered with %v, and made %s of %s", n, a, h.story(), before)
		}
		if a.Kind == api.NoteFence && n.Epoch >= epoch || a.Epoch != epoch {
			t.Errorf("%v was answered with %v in epoch %d", n, a, epoch)
		}
		h.counts[sort]++
		return
	}
	if n.Epoch < epoch || n.Epoch == 0 || h.c.Epoch() != n.Epoch {
		t.Errorf("%v was answered with %v in epoch %d, and now it is %d", n, a, epoch, h.c.Epoch())
	}
	now := h.c.Effects()
	switch {
	case len(now) == len(effects)+1 && now[len(effects)] == effect(n) && slices.Equal(now[:len(effects)], effects):
		sort += " effect"
		h.wantRightEffect(t, n, a, effects)
	case !slices.Equal(now, effects):
		t.Errorf("%v made the effects %v of %v", n, now, effects)
	case h.storesAndNotices() != told:
		t.Errorf("%v took no effect, and made %s of %s", n, h.storesAndNotices(), told)
	}
	h.wantSameAnswer(t, n, a)
	h.counts[sort]++
}

func (h history) storesAndNotices() string { return fmt.Sprintf("%s %q", h.stores(), h.c.Notices()) }

// wantRightEffect expects that a key took effect for the first time, a forward step ahead of its undo, and an undo behind its forward step.
func (h history) wantRightEffect(t *testing.T, n, a api.Note, effects []api.Effect) {
	t.Helper()
	opposite := effect(n)
	opposite.Undo = !n.Undo
	_, isUndone := h.answers[key{n.Order, n.Step, true}]
	switch {
	case a.Code != api.Done:
		t.Errorf("%v took effect, and was answered with %v", n, a)
	case slices.Contains(effects, effect(n)):
		t.Errorf("%v took effect twice: %v", n, effects)
	case n.Undo && !slices.Contains(effects, opposite):
		t.Errorf("%v took effect without its forward step: %v", n, effects)
	case !n.Undo && isUndone:
		t.Errorf("%v took effect behind its undo: %v", n, effects)
	}
}

// wantSameAnswer expects the answer that a key got before, and remembers the first one.
func (h history) wantSameAnswer(t *testing.T, n, a api.Note) {
	t.Helper()
	is := answer{string(n.Data), string(a.Data), a.Code}
	if was, isThere := h.answers[keyOf(n)]; isThere && was != is {
		t.Errorf("%v was answered with %#v before, and with %#v now", n, was, is)
	}
	h.answers[keyOf(n)] = is
}

// wantConserved goes through the effects once more, by what was asked and replied: goods, money and capacity are those of the beginning, less what the effects have taken and not given back.
func (h history) wantConserved(t *testing.T) {
	t.Helper()
	free, money, held, room := map[string]int{}, map[string]int{}, map[string]int{}, slices.Clone(h.start.room)
	for _, g := range h.start.goods {
		free[g.Name] = g.Free
	}
	for _, a := range h.start.accounts {
		money[a.Name] = a.Money
	}
	holds, pays, bookings := map[uint32]api.Work{}, map[uint32]api.Work{}, map[uint32]api.Booking{}
	for _, e := range h.c.Effects() {
		x := h.answers[key{e.Order, e.Step, e.Undo}]
		w, _ := readByTheWords([]byte(x.asked))
		switch name, n := string(w.Name), w.N; {
		case w.What == api.WorkHold && !e.Undo:
			holds[e.Order] = w
			free[name] -= n
		case w.What == api.WorkHold:
			free[string(holds[e.Order].Name)] += holds[e.Order].N
		case w.What == api.WorkAuthorise && !e.Undo:
			pays[e.Order] = w
			held[name] += n
		case w.What == api.WorkAuthorise:
			held[string(pays[e.Order].Name)] -= pays[e.Order].N
		case w.What == api.WorkCapture && !e.Undo:
			held[string(pays[e.Order].Name)] -= pays[e.Order].N
			money[string(pays[e.Order].Name)] -= pays[e.Order].N
		case w.What == api.WorkCapture:
			money[string(pays[e.Order].Name)] += pays[e.Order].N
		case w.What == api.WorkBook && !e.Undo:
			bookings[e.Order] = api.Booking{Day: int(x.reply[0]), N: n}
			room[int(x.reply[0])] -= n
		case w.What == api.WorkBook:
			room[bookings[e.Order].Day] += bookings[e.Order].N
		}
	}
	for _, g := range h.c.Goods() {
		if g.Free != free[g.Name] || g.Free < 0 {
			t.Errorf("%v, want %d free", g, free[g.Name])
		}
	}
	for _, a := range h.c.Accounts() {
		if a.Money != money[a.Name] || a.Held != held[a.Name] || a.Held < 0 || a.Held > a.Money {
			t.Errorf("%v, want %d and %d", a, money[a.Name], held[a.Name])
		}
	}
	for day, n := range room {
		if got := h.c.Room(day); got != n || n < 0 {
			t.Errorf("Room of day %d: %d, want %d", day, got, n)
		}
	}
}

// wantSameAnswers asks once more for all that was answered, in the latest epoch.
func (h history) wantSameAnswers(t *testing.T) {
	t.Helper()
	before, epoch := h.story(), h.c.Epoch()
	for k, x := range h.answers {
		n := note(epoch, k.order, k.step, k.undo, []byte(x.asked))
		h.want(t, "in the end", n, done(n, x.code, x.reply))
	}
	if after := h.story(); after != before {
		t.Errorf("asking again made %s of %s", after, before)
	}
}

// drawWork returns a work with arguments at and around the bounds; draw returns a number from 0 up to less than its argument.
func drawWork(draw func(n int) int) api.Work {
	what := 1 + draw(6)
	n := []int{1, 1, 2, 3, 4, 0, 5, api.MaxMoney}[draw(8)]
	name := []string{"a", "b", "ann", "bob", "", "c"}[draw(6)]
	if what == api.WorkHold {
		name = []string{"a", "a", "b", "c"}[draw(4)]
	}
	if what == api.WorkAuthorise {
		name = []string{"ann", "ann", "bob", "a"}[draw(4)]
	}
	return work(what, n, name)
}

// drawStep returns a step: mostly of an epoch that goes on, and of a key that was answered, or whose opposite was.
func drawStep(h history, draw func(n int) int) api.Note {
	n := note(h.c.Epoch(), uint32(1+draw(6)), draw(5), draw(3) == 0, bytesOf(drawWork(draw)))
	n.Epoch += []uint32{0, 0, 0, 0, 0, 0, 1, 2}[draw(8)]
	if n.Epoch == 0 || draw(12) == 0 {
		n.Epoch++
	}
	if h.c.Epoch() > 0 && draw(10) == 0 {
		n.Epoch = h.c.Epoch() - 1
	}
	near := h.answers[key{n.Order, n.Step, draw(2) == 0}]
	if near.asked != "" && draw(8) != 0 {
		n.Data = []byte(near.asked)
	}
	switch draw(40) {
	case 0:
		n.Data = nil
	case 1:
		n.Data = append(n.Data, 0)
	case 2:
		n.Step = []int{-1, 16, 15}[draw(3)]
	case 3:
		n.Order = []uint32{0, greatest}[draw(2)]
	case 4:
		n.Kind = draw(15)
	case 5:
		n.Key = []byte("k")
	}
	return n
}

func TestAnySteps(t *testing.T) {
	r := source()
	counts := map[string]int{}
	for range 150 {
		h := beginHistory(t, some())
		for range 200 {
			h.play(t, drawStep(h, r.Intn))
			h.wantConserved(t)
			if t.Failed() {
				return
			}
		}
		h.wantSameAnswers(t)
		for sort, n := range h.counts {
			counts[sort] += n
		}
	}
	for _, sort := range []string{"6 1", "6 2", "8 1", "8 2", "8 1 effect", "9 0"} {
		if counts[sort] < 500 {
			t.Errorf("the answer %q came %d times: too few to tell", sort, counts[sort])
		}
	}
}

// Histories that go on until the fence is full, and behind that.
func TestAnyStepsUpToFullFences(t *testing.T) {
	r := source()
	for range 5 {
		h := beginHistory(t, some())
		for range 900 {
			n := drawStep(h, r.Intn)
			if n.Order > 0 && n.Order < 7 {
				n.Order, n.Step = n.Order*10+uint32(r.Intn(8)), r.Intn(api.MaxSteps)
			}
			h.play(t, n)
			if t.Failed() {
				return
			}
		}
		h.wantConserved(t)
		h.wantSameAnswers(t)
		if len(h.answers) != api.MaxKept || h.counts["6 3"] < 50 {
			t.Errorf("%d answers, %v", len(h.answers), h.counts)
		}
	}
}

// A step and its undo, at whatever point, leave goods, accounts and capacities as they were; what a refund gives back is not reserved again.
func TestStepAndUndo(t *testing.T) {
	r := source()
	counts := map[int]int{}
	for range 5000 {
		h := beginHistory(t, some())
		for range r.Intn(25) {
			h.play(t, drawStep(h, r.Intn))
		}
		w := drawWork(r.Intn)
		step := note(h.c.Epoch()+1, uint32(1+r.Intn(7)), 9, false, bytesOf(w))
		undo := note(h.c.Epoch()+1, step.Order, 9, true, bytesOf(w))
		before, wasHeld := h.stores(), reserved(h, step.Order)
		a := h.serve(t, step)
		if h.serve(t, undo).Code == api.Refused {
			if w.What != api.WorkShip || a.Code != api.Done {
				t.Errorf("%v is not undone: %v", step, a)
			}
			continue
		}
		if a.Code == api.Done {
			counts[w.What]++
		}
		if w.What == api.WorkCapture && a.Code == api.Done {
			before = wasHeld
		}
		if after := h.stores(); after != before {
			t.Errorf("%v and its undo made %s of %s", step, after, before)
		}
		h.wantSame(t, "there and back")
	}
	for _, what := range []int{api.WorkHold, api.WorkAuthorise, api.WorkCapture, api.WorkBook, api.WorkNotice} {
		if counts[what] < 30 {
			t.Errorf("%d of %d were undone: too few to tell", counts[what], what)
		}
	}
}

// reserved tells the stores, but without what is reserved for an order.
func reserved(h history, order uint32) string {
	accounts := h.c.Accounts()
	for _, p := range h.m.pays {
		for i := range accounts {
			if p.Order == order && p.State == 1 && p.Name == accounts[i].Name {
				accounts[i].Held -= p.N
			}
		}
	}
	var room []int
	for day := range h.days {
		room = append(room, h.c.Room(day))
	}
	return storesOf(h.c.Goods(), accounts, room)
}

// Whole orders are done, and undone in reverse order, each step several times and in new epochs: everything is as it was.
func TestForwardAndBack(t *testing.T) {
	r := source()
	for range 300 {
		h := beginHistory(t, some())
		for _, n := range []api.Note{forward(20, 0, api.WorkHold, 1, "a"), forward(20, 1, api.WorkBook, 1, ""), forward(21, 0, api.WorkAuthorise, 1, "ann")} {
			h.play(t, n)
		}
		before, notices := h.stores(), 0
		var steps []api.Note
		for order := uint32(1); order <= 3; order++ {
			l := []api.Work{work(1, 1+r.Intn(3), "a"), work(3, 1+r.Intn(6), "ann"), work(4, 0, ""), work(5, 1+r.Intn(3), ""), work(6, 0, "x")}
			l = slices.Delete(l, r.Intn(5), 5)
			for step, w := range l {
				steps = append(steps, note(2, order, step, false, bytesOf(w)))
			}
		}
		epoch := uint32(2)
		often := func(n api.Note) {
			for range 1 + r.Intn(3) {
				epoch += uint32(r.Intn(2))
				h.play(t, in(epoch, n))
				h.play(t, in(epoch-1, n))
			}
		}
		for _, n := range steps {
			often(n)
		}
		slices.Reverse(steps)
		for _, n := range steps {
			n.Undo = true
			often(n)
		}
		if after := h.stores(); after != before {
			t.Errorf("forward and back made %s of %s", after, before)
		}
		for _, text := range noticesOf(h.c) {
			notices += map[string]int{"x": 1, "!x": -1}[text]
		}
		if notices != 0 {
			t.Errorf("Notices: %q", noticesOf(h.c))
		}
		h.wantConserved(t)
	}
}

// All sequences of four steps of one order, and of one that is in its way.
func TestAllShortSequences(t *testing.T) {
	var notes []api.Note
	for _, undo := range []bool{false, true} {
		notes = append(notes,
			note(2, 7, 0, undo, bytesOf(work(api.WorkHold, 4, "a"))),
			note(3, 7, 1, undo, bytesOf(work(api.WorkShip, 0, ""))),
			note(2, 7, 2, undo, bytesOf(work(api.WorkAuthorise, 4, "ann"))),
			note(2, 7, 3, undo, bytesOf(work(api.WorkCapture, 0, ""))),
			note(3, 8, 0, undo, bytesOf(work(api.WorkHold, 2, "a"))),
			note(2, 7, 4, undo, bytesOf(work(api.WorkBook, 2, ""))))
	}
	n := len(notes)
	for i := range n * n * n * n {
		h := beginHistory(t, some())
		for at := i; at > 0; at /= n {
			h.play(t, notes[at%n])
		}
		h.wantConserved(t)
		if t.Failed() {
			t.Fatalf("in sequence %d", i)
		}
	}
}

// drawFrom returns a draw by bytes, which are 0 behind their end.
func drawFrom(b []byte) func(n int) int {
	at := 0
	return func(n int) int {
		if at == len(b) {
			return 0
		}
		at++
		return int(b[at-1]) % n
	}
}

func FuzzHistory(f *testing.F) {
	f.Add([]byte("a step, its undo, and what comes behind them"))
	f.Add(bytes.Repeat([]byte{0, 1, 1, 4, 0, 1, 1, 0, 3, 9, 1, 0, 2, 2}, 20))
	f.Fuzz(func(t *testing.T, b []byte) {
		h := beginHistory(t, some())
		draw := drawFrom(b)
		for range min(len(b)/10+1, 300) {
			h.play(t, drawStep(h, draw))
			h.wantConserved(t)
			if t.Failed() {
				return
			}
		}
		h.wantSameAnswers(t)
	})
}

// Any note at all, also one that is far from the bounds.
func FuzzServe(f *testing.F) {
	f.Add(7, uint32(2), uint32(7), 0, false, 0, []byte(nil), bytesOf(work(api.WorkHold, 2, "a")), uint64(0))
	f.Add(7, uint32(2), uint32(7), 3, true, 0, []byte(nil), bytesOf(work(api.WorkBook, 2, "")), uint64(0))
	f.Add(7, uint32(1), uint32(0), 16, true, 1, []byte("k"), make([]byte, 256), uint64(1))
	f.Fuzz(func(t *testing.T, kind int, epoch, order uint32, step int, undo bool, code int, keyBytes, data []byte, more uint64) {
		n := api.Note{Kind: kind, Epoch: epoch, Order: order, Step: step, Undo: undo, Code: code, Key: keyBytes, Data: data, Lsn: more}
		h := beginHistory(t, some())
		for _, x := range []api.Note{n, forward(7, 0, api.WorkHold, 2, "a"), n, forward(7, 3, api.WorkBook, 2, ""), n, back(7, 3, api.WorkBook, 2, ""), note(epoch, order, step, undo, data), note(epoch, order, step, !undo, data), n} {
			h.play(t, x)
		}
		h.wantConserved(t)
		h.wantSameAnswers(t)
	})
}
