package crew_test

import (
	"fmt"
	"math"
	"slices"
	"testing"

	"drayage/api"
)

// row is a work of the chapter's table, with its verdict and its reply.
type row struct {
	name   string
	before []api.Note // all of them Done
	n      api.Note
	code   int
	reply  string
	stores string // behind it
	told   []string
}

// The stores of some, as they begin.
const untouched = "[{a 5} {b 1}] [{ann 10 0} {bob 3 0}] [2 0 3]"

// rows are the works of the chapter's table, forward and undo, each with the verdicts that it can have.
func rows() []row {
	hold, ship := forward(7, 0, api.WorkHold, 2, "a"), forward(7, 1, api.WorkShip, 0, "")
	pay, capture := forward(7, 2, api.WorkAuthorise, 4, "ann"), forward(7, 3, api.WorkCapture, 0, "")
	book, notice := forward(7, 4, api.WorkBook, 2, ""), forward(7, 5, api.WorkNotice, 0, "hi")
	return []row{
		{"hold", nil, hold, api.Done, "", "[{a 3} {b 1}] [{ann 10 0} {bob 3 0}] [2 0 3]", nil},
		{"hold all", nil, forward(greatest, 15, api.WorkHold, 5, "a"), api.Done, "", "[{a 0} {b 1}] [{ann 10 0} {bob 3 0}] [2 0 3]", nil},
		{"hold of another kind", nil, forward(1, 0, api.WorkHold, 1, "b"), api.Done, "", "[{a 5} {b 0}] [{ann 10 0} {bob 3 0}] [2 0 3]", nil},
		{"hold of another order", []api.Note{hold}, forward(8, 0, api.WorkHold, 3, "a"), api.Done, "", "[{a 0} {b 1}] [{ann 10 0} {bob 3 0}] [2 0 3]", nil},
		{"hold too many", nil, forward(7, 0, api.WorkHold, 6, "a"), api.Refused, "", untouched, nil},
		{"hold none", nil, forward(7, 0, api.WorkHold, 0, "a"), api.Refused, "", untouched, nil},
		{"hold of no kind", nil, forward(7, 0, api.WorkHold, 1, "c"), api.Refused, "", untouched, nil},
		{"hold without a name", nil, forward(7, 0, api.WorkHold, 1, ""), api.Refused, "", untouched, nil},
		{"hold of an account", nil, forward(7, 0, api.WorkHold, 1, "ann"), api.Refused, "", untouched, nil},
		{"hold twice", []api.Note{hold}, forward(7, 1, api.WorkHold, 1, "b"), api.Refused, "", "[{a 3} {b 1}] [{ann 10 0} {bob 3 0}] [2 0 3]", nil},
		{"free", []api.Note{hold}, back(7, 0, api.WorkHold, 2, "a"), api.Done, "", untouched, nil},
		{"free by the order, whatever number and name", []api.Note{hold}, back(7, 0, api.WorkHold, 0, ""), api.Done, "", untouched, nil},
		{"free what is gone", []api.Note{hold, ship}, back(7, 0, api.WorkHold, 2, "a"), api.Refused, "", "[{a 3} {b 1}] [{ann 10 0} {bob 3 0}] [2 0 3]", nil},

		{"ship", []api.Note{hold}, ship, api.Done, "", "[{a 3} {b 1}] [{ann 10 0} {bob 3 0}] [2 0 3]", nil},
		{"ship by the order, whatever number and name", []api.Note{hold}, forward(7, 1, api.WorkShip, 9, "c"), api.Done, "", "[{a 3} {b 1}] [{ann 10 0} {bob 3 0}] [2 0 3]", nil},
		{"ship nothing", nil, ship, api.Refused, "", untouched, nil},
		{"ship what another order holds", []api.Note{hold}, forward(8, 1, api.WorkShip, 2, "a"), api.Refused, "", "[{a 3} {b 1}] [{ann 10 0} {bob 3 0}] [2 0 3]", nil},
		{"the undo of a ship", []api.Note{hold, ship}, back(7, 1, api.WorkShip, 0, ""), api.Refused, "", "[{a 3} {b 1}] [{ann 10 0} {bob 3 0}] [2 0 3]", nil},

		{"authorise", nil, pay, api.Done, "", "[{a 5} {b 1}] [{ann 10 4} {bob 3 0}] [2 0 3]", nil},
		{"authorise all", nil, forward(1, 0, api.WorkAuthorise, 3, "bob"), api.Done, "", "[{a 5} {b 1}] [{ann 10 0} {bob 3 3}] [2 0 3]", nil},
		{"authorise too much", []api.Note{pay}, forward(8, 0, api.WorkAuthorise, 7, "ann"), api.Refused, "", "[{a 5} {b 1}] [{ann 10 4} {bob 3 0}] [2 0 3]", nil},
		{"authorise nothing", nil, forward(7, 0, api.WorkAuthorise, 0, "ann"), api.Refused, "", untouched, nil},
		{"authorise of nobody", nil, forward(7, 0, api.WorkAuthorise, 1, "a"), api.Refused, "", untouched, nil},
		{"authorise twice", []api.Note{pay}, forward(7, 0, api.WorkAuthorise, 1, "bob"), api.Refused, "", "[{a 5} {b 1}] [{ann 10 4} {bob 3 0}] [2 0 3]", nil},
		{"void", []api.Note{pay}, back(7, 2, api.WorkAuthorise, 4, "ann"), api.Done, "", untouched, nil},
		{"void by the order, whatever number and name", []api.Note{pay}, back(7, 2, api.WorkAuthorise, 1, "bob"), api.Done, "", untouched, nil},
		{"void what is captured", []api.Note{pay, capture}, back(7, 2, api.WorkAuthorise, 4, "ann"), api.Refused, "", "[{a 5} {b 1}] [{ann 6 0} {bob 3 0}] [2 0 3]", nil},

		{"capture", []api.Note{pay}, capture, api.Done, "", "[{a 5} {b 1}] [{ann 6 0} {bob 3 0}] [2 0 3]", nil},
		{"capture nothing", nil, capture, api.Refused, "", untouched, nil},
		{"capture twice", []api.Note{pay, capture}, forward(7, 4, api.WorkCapture, 0, ""), api.Refused, "", "[{a 5} {b 1}] [{ann 6 0} {bob 3 0}] [2 0 3]", nil},
		{"refund", []api.Note{pay, capture}, back(7, 3, api.WorkCapture, 0, ""), api.Done, "", untouched, nil},
		{"refund by the order, whatever number and name", []api.Note{pay, capture}, back(7, 3, api.WorkCapture, 9, "bob"), api.Done, "", untouched, nil},
		{"refund twice", []api.Note{pay, capture, notice, back(7, 5, api.WorkCapture, 0, "")}, back(7, 3, api.WorkCapture, 0, ""), api.Refused, "", untouched, []string{"hi"}},
		{"void what is refunded", []api.Note{pay, capture, back(7, 3, api.WorkCapture, 0, "")}, back(7, 2, api.WorkAuthorise, 4, "ann"), api.Refused, "", untouched, nil},

		{"book", nil, book, api.Done, "\x00", "[{a 5} {b 1}] [{ann 10 0} {bob 3 0}] [0 0 3]", nil},
		{"book on a later day", nil, forward(7, 4, api.WorkBook, 3, "a"), api.Done, "\x02", "[{a 5} {b 1}] [{ann 10 0} {bob 3 0}] [2 0 0]", nil},
		{"book what is left", []api.Note{book}, forward(8, 4, api.WorkBook, 1, ""), api.Done, "\x02", "[{a 5} {b 1}] [{ann 10 0} {bob 3 0}] [0 0 2]", nil},
		{"book too many", nil, forward(7, 4, api.WorkBook, 4, ""), api.Refused, "", untouched, nil},
		{"book none", nil, forward(7, 4, api.WorkBook, 0, ""), api.Refused, "", untouched, nil},
		{"book twice", []api.Note{book}, forward(7, 5, api.WorkBook, 1, ""), api.Refused, "", "[{a 5} {b 1}] [{ann 10 0} {bob 3 0}] [0 0 3]", nil},
		{"cancel", []api.Note{book}, back(7, 4, api.WorkBook, 2, ""), api.Done, "", untouched, nil},
		{"cancel by the order, whatever number and name", []api.Note{book}, back(7, 4, api.WorkBook, 0, "x"), api.Done, "", untouched, nil},
		{"cancel twice", []api.Note{book, notice, back(7, 5, api.WorkBook, 0, "")}, back(7, 4, api.WorkBook, 2, ""), api.Refused, "", untouched, []string{"hi"}},

		{"a notice", nil, notice, api.Done, "", untouched, []string{"hi"}},
		{"a notice with a number", nil, forward(7, 5, api.WorkNotice, api.MaxMoney, "hi"), api.Done, "", untouched, []string{"hi"}},
		{"a notice of no byte", nil, forward(7, 5, api.WorkNotice, 0, ""), api.Done, "", untouched, []string{""}},
		{"the longest notice", nil, forward(7, 5, api.WorkNotice, 0, long(32)), api.Done, "", untouched, []string{long(32)}},
		{"a notice of any bytes", nil, forward(7, 5, api.WorkNotice, 0, "\x00\xff!"), api.Done, "", untouched, []string{"\x00\xff!"}},
		{"the same notice of another step", []api.Note{notice}, forward(7, 6, api.WorkNotice, 0, "hi"), api.Done, "", untouched, []string{"hi", "hi"}},
		{"the undo of a notice", []api.Note{notice}, back(7, 5, api.WorkNotice, 0, "hi"), api.Done, "", untouched, []string{"hi", "!hi"}},
		{"the undo of a notice of no byte", []api.Note{forward(7, 5, api.WorkNotice, 0, "")}, back(7, 5, api.WorkNotice, 0, ""), api.Done, "", untouched, []string{"", "!"}},
		{"the undo of a notice, with another name", []api.Note{notice}, back(7, 5, api.WorkNotice, 1, long(32)), api.Done, "", untouched, []string{"hi", "!" + long(32)}},

		{"no data", nil, with("", hold), api.Refused, "", untouched, nil},
		{"data that are no work", nil, with("hold 2 a", hold), api.Refused, "", untouched, nil},
		{"a What of 0", nil, with("\x00\x00\x00\x00\x01\x01a", hold), api.Refused, "", untouched, nil},
		{"a What of 7", nil, with("\x07\x00\x00\x00\x01\x01a", hold), api.Refused, "", untouched, nil},
		{"a byte more", nil, with(string(hold.Data)+"\x00", hold), api.Refused, "", untouched, nil},
		{"a byte fewer", nil, with(string(hold.Data[:6]), hold), api.Refused, "", untouched, nil},
		{"the longest data", nil, with(long(api.MaxNote), hold), api.Refused, "", untouched, nil},
		{"no data to undo a step", []api.Note{notice}, with("", back(7, 5, 6, 0, "")), api.Refused, "", untouched, []string{"hi"}},
		{"data that are no work, to undo a step", []api.Note{hold}, with("hold 2 a", back(7, 0, 1, 2, "a")), api.Refused, "", "[{a 3} {b 1}] [{ann 10 0} {bob 3 0}] [2 0 3]", nil},
	}
}

// reach brings a new crew to where a row begins.
func reach(t *testing.T, x row) both {
	t.Helper()
	b := begin(t, some())
	b.wantDone(t, x.before...)
	return b
}

func TestTable(t *testing.T) {
	for _, x := range rows() {
		b := reach(t, x)
		effects := b.c.Effects()
		if len(effects) != len(x.before) {
			t.Errorf("%s: the effects %v ahead of it", x.name, effects)
		}
		b.want(t, x.name, x.n, done(x.n, x.code, x.reply))
		if x.code == api.Done {
			effects = append(effects, effect(x.n))
		}
		if got, want := b.story(), story(2, effects, x.told, x.stores); got != want {
			t.Errorf("%s: %s, want %s", x.name, got, want)
		}
	}
}

// others returns data that differ, some of them in a byte, in one byte fewer, or in one more.
func others(data string) []string {
	l := []string{string(bytesOf(work(api.WorkNotice, 77, "other"))), long(200)}
	if len(data) < api.MaxNote {
		l = append(l, data+"\x00", "\x00"+data)
	}
	if len(data) > 0 {
		l = append(l, "", data[1:], data[:len(data)-1], data[:len(data)-1]+string([]byte{^data[len(data)-1]}), string([]byte{^data[0]})+data[1:])
	}
	return l
}

// All that each step can be answered behind its first answer.
func TestSameKey(t *testing.T) {
	for _, x := range rows() {
		b := reach(t, x)
		b.serve(t, x.n)
		again := done(x.n, x.code, x.reply)
		b.wantNothingNew(t, x.name+", again", x.n, again)
		for _, data := range others(string(x.n.Data)) {
			b.wantNothingNew(t, x.name+", with other data", with(data, x.n), no(2, 2))
			b.wantNothingNew(t, x.name+", with other data in a later epoch", in(9, with(data, x.n)), no(2, 2))
			b.wantNothingNew(t, x.name+", with other data in an older epoch", in(1, with(data, x.n)), fenced(2, x.n))
		}
		b.wantNothingNew(t, x.name+", in an older epoch", in(1, x.n), fenced(2, x.n))
		b.wantNothingNew(t, x.name+", in epoch 0", in(0, x.n), no(2, 1))

		before := b.stores()
		effects, notices := b.c.Effects(), noticesOf(b.c)
		for _, epoch := range []uint32{3, 4, 1 << 31, greatest} {
			b.want(t, x.name+", in a later epoch", in(epoch, x.n), in(epoch, again))
			if got, want := b.story(), story(epoch, effects, notices, before); got != want {
				t.Errorf("%s: %s, want %s", x.name, got, want)
			}
			b.wantNothingNew(t, x.name+", in the epoch before", in(epoch-1, x.n), fenced(epoch, x.n))
		}
	}
}

// The epoch, the order, the step and the undo of an answer are those of the step.
func TestAnswersNameTheStep(t *testing.T) {
	for _, epoch := range []uint32{1, 2, 255, 256, 1 << 31, greatest} {
		for _, order := range []uint32{1, 2, 255, 256, 1 << 31, greatest} {
			for step := range api.MaxSteps {
				b := begin(t, some())
				hold := in(epoch, forward(order, step, api.WorkHold, 2, "a"))
				undo := in(epoch, back(order, step, api.WorkHold, 2, "a"))
				b.want(t, "forward", hold, done(hold, api.Done, ""))
				b.want(t, "undo", undo, done(undo, api.Done, ""))
				b.want(t, "other data", with("", hold), no(epoch, 2))
				b.want(t, "old", in(epoch-1, undo), map[bool]api.Note{true: no(1, 1), false: fenced(epoch, undo)}[epoch == 1])
				b.want(t, "no step", api.Note{}, no(epoch, 1))
				if got, want := b.story(), story(epoch, []api.Effect{{Order: order, Step: step}, {Order: order, Step: step, Undo: true}}, nil, untouched); got != want {
					t.Errorf("%s, want %s", got, want)
				}
			}
		}
	}
}

// noSteps are notes that are no steps to be served, for one reason each.
func noSteps() map[string]api.Note {
	with := func(change func(n *api.Note)) api.Note {
		n := in(5, forward(7, 0, api.WorkHold, 1, "a"))
		change(&n)
		return n
	}
	data := bytesOf(work(api.WorkHold, 1, "a"))
	all := map[string]api.Note{
		"nothing":                     {},
		"a kind that is 7 at its end": with(func(n *api.Note) { n.Kind = 256 + 7 }),
		"a NoteShip":                  {Kind: api.NoteShip, Epoch: 5, Data: data},
		"a NoteDone":                  {Kind: api.NoteDone, Epoch: 5, Order: 7, Code: 1},
		"a NoteFence":                 {Kind: api.NoteFence, Epoch: 5, Order: 7},
		"a NoteSubmit":                {Kind: api.NoteSubmit, Key: []byte("k"), Data: data},
		"an Epoch of 0":               with(func(n *api.Note) { n.Epoch = 0 }),
		"an Epoch of 0, of an undo":   with(func(n *api.Note) { n.Epoch, n.Undo = 0, true }),
		"an Order of 0":               with(func(n *api.Note) { n.Order = 0 }),
		"an Order of 0, of an undo":   with(func(n *api.Note) { n.Order, n.Undo = 0, true }),
		"an Old":                      with(func(n *api.Note) { n.Old = 1 }),
		"an Lsn":                      with(func(n *api.Note) { n.Lsn = 1 }),
		"a Tick":                      with(func(n *api.Note) { n.Tick = 1 }),
		"a Code":                      with(func(n *api.Note) { n.Code = 1 }),
		"a Key":                       with(func(n *api.Note) { n.Key = []byte("k") }),
		"Data of MaxNote + 1":         with(func(n *api.Note) { n.Data = make([]byte, api.MaxNote+1) }),
		"very long Data":              with(func(n *api.Note) { n.Data = make([]byte, 1<<16) }),
	}
	for _, kind := range []int{math.MinInt, -1, 0, 1, 2, 3, 4, 5, 6, 8, 9, 10, 11, 12, 13, 14, math.MaxInt} {
		all[fmt.Sprint("kind ", kind)] = with(func(n *api.Note) { n.Kind = kind })
	}
	for _, step := range []int{math.MinInt, -256, -1, api.MaxSteps, 255, 256, 1 << 32, math.MaxInt} {
		all[fmt.Sprint("step ", step)] = with(func(n *api.Note) { n.Step = step })
	}
	return all
}

func TestNoSteps(t *testing.T) {
	for name, n := range noSteps() {
		b := begin(t, some())
		b.wantNothingNew(t, name, n, no(0, 1))
		b.wantDone(t, forward(7, 0, api.WorkHold, 1, "a"))
		b.wantNothingNew(t, name, n, no(2, 1))
		b.wantDone(t, in(8, back(7, 0, api.WorkHold, 1, "a")))
		b.wantNothingNew(t, name+", also in an old epoch", n, no(8, 1))
		n.Undo = true
		b.wantNothingNew(t, name+", as an undo", n, no(8, 1))
		b.want(t, name+", ahead of a step", in(8, forward(9, 0, api.WorkHold, 5, "a")), done(in(8, forward(9, 0, 1, 1, "")), api.Done, ""))
	}
}

// A step of an epoch that is over is not executed, whatever else could be said of it.
func TestOldEpochs(t *testing.T) {
	b := begin(t, some())
	hold, early := in(5, forward(7, 0, api.WorkHold, 2, "a")), in(5, back(7, 1, api.WorkNotice, 0, "x"))
	b.wantDone(t, hold, early)
	for epoch := uint32(1); epoch < 5; epoch++ {
		for _, n := range []api.Note{
			hold,
			with("other data", hold),
			in(1, back(7, 0, api.WorkHold, 2, "a")),
			early,
			forward(7, 1, api.WorkNotice, 0, "x"),
			forward(8, 0, api.WorkHold, 1, "b"),
			forward(8, 0, api.WorkNotice, 0, "x"),
			back(8, 0, api.WorkNotice, 0, "x"),
			with("no work", forward(8, 15, 1, 1, "b")),
			forward(greatest, 15, api.WorkBook, 1, ""),
		} {
			b.wantNothingNew(t, "old", in(epoch, n), fenced(5, n))
		}
	}
	// A new crew has seen no epoch, and takes the first one.
	b = begin(t, some())
	b.wantDone(t, in(1, hold))
	if b.c.Epoch() != 1 {
		t.Errorf("epoch %d", b.c.Epoch())
	}
}

// Only what is answered with a verdict brings a later epoch.
func TestEpochs(t *testing.T) {
	b := begin(t, some())
	want := func(epoch uint32) {
		t.Helper()
		if got := b.c.Epoch(); got != epoch {
			t.Errorf("epoch %d, want %d", got, epoch)
		}
	}
	want(0)
	b.serve(t, in(3, forward(7, 0, api.WorkHold, 9, "a"))) // refused
	want(3)
	b.serve(t, in(4, with("no work", forward(7, 1, 1, 1, "a"))))
	want(4)
	b.serve(t, in(5, back(7, 0, api.WorkHold, 9, "a"))) // nothing to undo
	want(5)
	b.serve(t, in(6, back(7, 2, api.WorkHold, 1, "a"))) // ahead of its forward step
	want(6)
	b.serve(t, in(7, forward(7, 2, api.WorkHold, 1, "a"))) // behind its undo
	want(7)
	b.serve(t, in(8, forward(7, 3, api.WorkHold, 1, "a"))) // done
	want(8)
	b.serve(t, in(9, forward(7, 3, api.WorkHold, 1, "a"))) // again
	want(9)
	b.serve(t, in(10, forward(7, 3, api.WorkHold, 2, "a"))) // with other data
	want(9)
	b.serve(t, in(11, forward(0, 3, api.WorkHold, 2, "a"))) // no step
	want(9)
	b.serve(t, in(8, forward(7, 4, api.WorkHold, 2, "a"))) // old
	want(9)
	b.serve(t, in(greatest, forward(7, 4, api.WorkHold, 2, "a")))
	want(greatest)
}

// An undo that comes ahead of its forward step has nothing to undo, and the forward step behind it is refused.
func TestUndoFirst(t *testing.T) {
	for what := 1; what <= 6; what++ {
		b := begin(t, some())
		// What the undo would end is there, by other steps of the order.
		b.wantDone(t, forward(7, 0, api.WorkHold, 2, "a"), forward(7, 1, api.WorkAuthorise, 4, "ann"), forward(7, 2, api.WorkBook, 1, ""))
		if what == api.WorkCapture {
			b.wantDone(t, forward(7, 3, api.WorkCapture, 0, ""))
		}
		effects, stores := b.c.Effects(), b.stores()
		undo, step := in(3, back(7, 9, what, 1, "b")), in(4, forward(7, 9, what, 1, "b"))
		for range 2 {
			b.want(t, "an undo ahead", undo, done(undo, api.Done, ""))
		}
		if got, want := b.story(), story(3, effects, nil, stores); got != want {
			t.Errorf("%s, want %s", got, want)
		}
		for range 2 {
			b.want(t, "a step behind", step, done(step, api.Refused, ""))
		}
		b.want(t, "the undo again", in(4, undo), done(in(4, undo), api.Done, ""))
		b.wantNothingNew(t, "the undo with other data", in(4, with("x", undo)), no(4, 2))
		b.wantNothingNew(t, "the step with other data", with("x", step), no(4, 2))
		if got, want := b.story(), story(4, effects, nil, stores); got != want {
			t.Errorf("%s, want %s", got, want)
		}
	}
}

// Data that are no work do not matter where nothing is executed.
func TestDataOfWhatIsNotExecuted(t *testing.T) {
	b := begin(t, some())
	undo, step := with("no work", back(7, 0, 1, 1, "")), with("neither", forward(7, 0, 1, 1, ""))
	b.want(t, "an undo ahead", undo, done(undo, api.Done, ""))
	b.want(t, "a step behind", step, done(step, api.Refused, ""))
	if got, want := b.story(), story(2, nil, nil, untouched); got != want {
		t.Errorf("%s, want %s", got, want)
	}
}

// A step that was refused has nothing to undo, and stays refused, also once it could be done.
func TestRefusedSteps(t *testing.T) {
	for _, x := range rows() {
		if x.code != api.Refused || x.n.Undo {
			continue
		}
		b := reach(t, x)
		b.serve(t, x.n)
		before, effects := b.stores(), b.c.Effects()
		undo := note(2, x.n.Order, x.n.Step, true, x.n.Data)
		b.want(t, x.name+", undone", undo, done(undo, api.Done, ""))
		b.want(t, x.name+", again", x.n, done(x.n, api.Refused, ""))
		if got, want := b.story(), story(2, effects, nil, before); got != want {
			t.Errorf("%s: %s, want %s", x.name, got, want)
		}
	}
	b := begin(t, some())
	many, other := forward(7, 0, api.WorkHold, 5, "a"), forward(8, 0, api.WorkHold, 1, "a")
	b.wantDone(t, other)
	b.want(t, "too many", many, done(many, api.Refused, ""))
	b.wantDone(t, back(8, 0, api.WorkHold, 1, "a"))
	b.want(t, "as many as there are", many, done(many, api.Refused, ""))
	if got := b.stores(); got != untouched {
		t.Errorf("%s", got)
	}
}

// An undo that was refused is not tried again, and its step is not executed again.
func TestRefusedUndo(t *testing.T) {
	b := begin(t, some())
	hold, ship, undo := forward(7, 0, api.WorkHold, 2, "a"), forward(7, 1, api.WorkShip, 0, ""), back(7, 1, api.WorkShip, 0, "")
	b.wantDone(t, hold, ship)
	for range 2 {
		b.want(t, "the undo", undo, done(undo, api.Refused, ""))
		b.want(t, "the step", ship, done(ship, api.Done, ""))
	}
	if got, want := b.story(), story(2, []api.Effect{effect(hold), effect(ship)}, nil, "[{a 3} {b 1}] [{ann 10 0} {bob 3 0}] [2 0 3]"); got != want {
		t.Errorf("%s, want %s", got, want)
	}
}

// filled returns a crew with n answers: the last two are an undo ahead of its step, and a hold.
func filled(t *testing.T, n int) (b both, early, hold api.Note) {
	t.Helper()
	b = begin(t, some())
	for i := range n - 2 {
		b.c.Serve(forward(uint32(1000+i/api.MaxSteps), i%api.MaxSteps, api.WorkNotice, i, "x"))
		b.m.serve(forward(uint32(1000+i/api.MaxSteps), i%api.MaxSteps, api.WorkNotice, i, "x"))
	}
	early, hold = back(7, 1, api.WorkNotice, 0, "early"), forward(7, 0, api.WorkHold, 2, "a")
	b.wantDone(t, early, hold)
	return b, early, hold
}

// A fence with MaxKept elements takes no new key, and answers those that it has.
func TestFullFence(t *testing.T) {
	b, early, hold := filled(t, api.MaxKept)
	undo := back(7, 0, api.WorkHold, 2, "a")
	fresh := map[string]api.Note{
		"a new order":                forward(8, 0, api.WorkHold, 1, "a"),
		"a new step":                 forward(7, 2, api.WorkBook, 1, ""),
		"an undo of what is done":    undo,
		"an undo ahead of its step":  back(7, 3, api.WorkNotice, 0, "x"),
		"a step behind its undo":     forward(7, 1, api.WorkNotice, 0, "early"),
		"data that are no work":      with("no work", forward(8, 0, 1, 1, "a")),
		"an order behind all others": forward(greatest, 15, api.WorkNotice, 0, "x"),
	}
	for name, n := range fresh {
		b.wantNothingNew(t, name, n, no(2, 3))
		b.wantNothingNew(t, name+", in a later epoch", in(9, n), no(2, 3))
		b.wantNothingNew(t, name+", in an older epoch", in(1, n), fenced(2, n))
		b.wantNothingNew(t, name+", in epoch 0", in(0, n), no(2, 1))
	}
	b.wantNothingNew(t, "a key that is there", hold, done(hold, api.Done, ""))
	b.wantNothingNew(t, "a key that is there, an undo", early, done(early, api.Done, ""))
	b.wantNothingNew(t, "a key that is there, with other data", with("x", hold), no(2, 2))
	b.wantNothingNew(t, "no step", api.Note{}, no(2, 1))
	b.want(t, "a key that is there, in a later epoch", in(9, hold), done(in(9, hold), api.Done, ""))
	for name, n := range fresh {
		b.wantNothingNew(t, name+", in an epoch that is over now", n, fenced(9, n))
		b.wantNothingNew(t, name+", in the later epoch", in(9, n), no(9, 3))
	}
	if l := b.c.Effects(); len(l) != api.MaxKept-1 || l[api.MaxKept-2] != effect(hold) {
		t.Errorf("%d effects: %v", len(l), l)
	}
}

// The last key that there is space for is taken.
func TestLastKey(t *testing.T) {
	for _, x := range []struct {
		name string
		n    api.Note
		code int
	}{
		{"to be done", back(7, 0, api.WorkHold, 2, "a"), api.Done},
		{"to be done, and refused", forward(7, 2, api.WorkHold, 2, "a"), api.Refused},
		{"to be refused", forward(7, 1, api.WorkNotice, 0, "early"), api.Refused},
		{"nothing to undo", back(7, 2, api.WorkHold, 2, "a"), api.Done},
		{"no work", with("", forward(8, 0, 1, 1, "")), api.Refused},
	} {
		b, _, _ := filled(t, api.MaxKept-1)
		b.want(t, x.name, x.n, done(x.n, x.code, ""))
		b.wantNothingNew(t, x.name+", again", x.n, done(x.n, x.code, ""))
		n := forward(9, 0, api.WorkNotice, 0, "x")
		b.wantNothingNew(t, x.name+", and a key behind it", n, no(2, 3))
	}
}

// All keys of an order stand apart from one another, and from those of other orders.
func TestKeysAreApart(t *testing.T) {
	b := begin(t, some())
	var effects []api.Effect
	var notices []string
	for _, order := range []uint32{7, 1, 8, greatest} {
		for _, step := range []int{3, 0, 15, 4} {
			for _, undo := range []bool{false, true} {
				name := fmt.Sprint(order, step)
				n := note(2, order, step, undo, bytesOf(work(api.WorkNotice, 0, name)))
				b.wantDone(t, n)
				effects = append(effects, effect(n))
				notices = append(notices, map[bool]string{true: "!"}[undo]+name)
			}
		}
	}
	if got, want := b.story(), story(2, effects, notices, untouched); got != want {
		t.Errorf("%s, want %s", got, want)
	}
}

// The effects and the notices stand in the order in which they occurred, not in that of their keys.
func TestOrderOfEffects(t *testing.T) {
	b := begin(t, some())
	l := []api.Note{
		forward(9, 2, api.WorkNotice, 0, "z"),
		forward(9, 1, api.WorkHold, 1, "b"),
		forward(3, 5, api.WorkNotice, 0, "y"),
		back(9, 2, api.WorkNotice, 0, "w"),
		forward(1, 0, api.WorkBook, 1, ""),
		forward(3, 0, api.WorkNotice, 0, "a"),
		back(3, 5, api.WorkNotice, 0, "y"),
	}
	var effects []api.Effect
	for _, n := range l {
		b.wantDone(t, n)
		effects = append(effects, effect(n))
	}
	if got := b.c.Effects(); !slices.Equal(got, effects) {
		t.Errorf("Effects: %v, want %v", got, effects)
	}
	if got := noticesOf(b.c); !slices.Equal(got, []string{"z", "y", "!w", "a", "!y"}) {
		t.Errorf("Notices: %q", got)
	}
}

// The undo does what its own data say: the chapter holds them to nothing else.
func TestUndoWithOtherWork(t *testing.T) {
	b := begin(t, some())
	b.wantDone(t, forward(7, 0, api.WorkHold, 2, "a"), forward(7, 1, api.WorkBook, 2, ""))
	undo := back(7, 0, api.WorkBook, 0, "")
	b.want(t, "the undo of a hold, which cancels", undo, done(undo, api.Done, ""))
	if got := b.stores(); got != "[{a 3} {b 1}] [{ann 10 0} {bob 3 0}] [2 0 3]" {
		t.Errorf("%s", got)
	}
}

// Nil data and empty data are the same step.
func TestNilData(t *testing.T) {
	b := begin(t, some())
	for _, data := range [][]byte{nil, {}, make([]byte, 0, 9)} {
		n := note(2, 7, 0, false, data)
		b.want(t, "no data", n, done(n, api.Refused, ""))
		n.Key = []byte{}
		b.want(t, "an empty key", n, done(n, api.Refused, ""))
		n = note(2, 7, 1, true, data)
		b.want(t, "no data, undone", n, done(n, api.Done, ""))
	}
}
