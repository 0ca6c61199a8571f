package crew_test

import (
	"bytes"
	"fmt"
	"runtime"
	"slices"
	"strings"
	"testing"

	"drayage/api"
	"drayage/crew"
)

// spoil writes over b and its spare capacity.
func spoil(b []byte) {
	b = b[:cap(b)]
	for i := range b {
		b[i] = ^b[i]
	}
}

// overwrite writes over a list and the room behind it.
func overwrite[T any](l []T, with T) {
	l = l[:cap(l)]
	for i := range l {
		l[i] = with
	}
}

// roomy returns b with spare capacity that has something in it.
func roomy(b []byte) []byte {
	return append(slices.Clip(bytes.Clone(b)), "behind"...)[:len(b)]
}

func TestNewLeavesItsArguments(t *testing.T) {
	l := []stores{some(), {goodsOf(50), accountsOf(50), roomOf(60)}, {goodsOf(51), accountsOf(51), roomOf(61)}, {some().goods, some().accounts, []int{-1}}, {some().goods, []api.Account{{}}, nil}, {}}
	for _, s := range l {
		goods := append(slices.Clone(s.goods), api.Good{Name: "behind", Free: 1})
		accounts := append(slices.Clone(s.accounts), api.Account{Name: "behind", Money: 1})
		room := append(slices.Clone(s.room), 77)
		before := fmt.Sprint(goods, accounts, room)
		c, _ := crew.New(goods[:len(s.goods)], accounts[:len(s.accounts)], room[:len(s.room)])
		for i, x := range rows() {
			c.Serve(in(uint32(i+2), x.n))
		}
		if after := fmt.Sprint(goods, accounts, room); after != before {
			t.Errorf("New, and Serve behind it, made %s of %s", after, before)
		}
	}
}

// What New was handed may be written over later.
func TestNewSharesNoMemory(t *testing.T) {
	s := some()
	one, two := begin(t, s), begin(t, s)
	one.wantDone(t, forward(7, 0, api.WorkHold, 2, "a"), forward(7, 1, api.WorkBook, 2, ""))
	overwrite(s.goods, api.Good{Name: "spoilt", Free: 77})
	overwrite(s.accounts, api.Account{Name: "spoilt", Money: 77})
	overwrite(s.room, 77)
	for _, b := range []both{one, two} {
		b.wantSame(t, "spoilt")
		b.serve(t, forward(8, 0, api.WorkHold, 2, "a"))
		b.serve(t, forward(8, 1, api.WorkAuthorise, 2, "ann"))
		b.serve(t, forward(8, 2, api.WorkBook, 2, ""))
		b.serve(t, forward(9, 0, api.WorkHold, 2, "spoilt"))
	}
}

// What Serve was handed is left as it is, with what is behind it, and may be written over later.
func TestServeSharesNoMemory(t *testing.T) {
	for _, x := range rows() {
		b := reach(t, x)
		n := x.n
		n.Data, n.Key = roomy(x.n.Data), roomy(nil)
		whole := string(n.Data[:cap(n.Data)])
		first := b.c.Serve(n)
		b.m.serve(x.n)
		if string(n.Data[:cap(n.Data)]) != whole || string(n.Key[:6]) != "behind" {
			t.Errorf("%s: Serve made %q of %q", x.name, n.Data[:cap(n.Data)], whole)
		}
		spoil(n.Data)
		spoil(n.Key)
		b.wantSame(t, x.name)
		b.wantNothingNew(t, x.name+", again", x.n, done(x.n, x.code, x.reply))
		if len(n.Data) > 0 {
			b.wantNothingNew(t, x.name+", with what is there now", note(2, x.n.Order, x.n.Step, x.n.Undo, bytes.Clone(n.Data)), no(2, 2))
		}
		if !sameNote(first, done(x.n, x.code, x.reply)) {
			t.Errorf("%s: the answer became %v", x.name, first)
		}
	}
}

// Each answer is memory of its own: what is written over it or behind it is in no other one, and not in the crew.
func TestAnswersShareNoMemory(t *testing.T) {
	for _, x := range rows() {
		b := reach(t, x)
		want := done(x.n, x.code, x.reply)
		var l []api.Note
		for range 3 {
			l = append(l, b.serve(t, x.n))
		}
		for i, a := range l {
			spoil(a.Data)
			spoil(a.Key)
			_ = append(a.Data, "more"...)
			for _, other := range l[i+1:] {
				if !sameNote(other, want) {
					t.Errorf("%s: two answers share memory: %v, want %v", x.name, other, want)
				}
			}
			b.wantNothingNew(t, x.name, x.n, want)
		}
	}
}

// busy returns a crew with something in each list.
func busy(t *testing.T) both {
	t.Helper()
	b := begin(t, some())
	b.wantDone(t, forward(7, 0, api.WorkHold, 2, "a"), forward(7, 1, api.WorkNotice, 0, "hi"), forward(8, 0, api.WorkBook, 2, ""),
		forward(8, 1, api.WorkNotice, 0, ""), back(7, 1, api.WorkNotice, 0, "hi"), forward(9, 1, api.WorkAuthorise, 3, "bob"), forward(9, 2, api.WorkNotice, 0, long(32)))
	return b
}

func TestListsShareNoMemory(t *testing.T) {
	for _, b := range []both{begin(t, stores{}), begin(t, some()), busy(t)} {
		effects, notices, goods, accounts := b.c.Effects(), b.c.Notices(), b.c.Goods(), b.c.Accounts()
		told := func() string { return fmt.Sprintf("%v %q %v %v", effects, notices, goods, accounts) }
		was := told()

		for _, text := range b.c.Notices() {
			spoil(text)
			_ = append(text, "more"...)
		}
		overwrite(b.c.Notices(), []byte("spoilt"))
		overwrite(b.c.Effects(), api.Effect{Order: 77, Step: 7, Undo: true})
		overwrite(b.c.Goods(), api.Good{Name: "spoilt", Free: 77})
		overwrite(b.c.Accounts(), api.Account{Name: "spoilt", Money: 77, Held: 7})
		b.wantSame(t, "spoilt")
		if got := told(); got != was {
			t.Errorf("two answers share memory: %s, want %s", got, was)
		}

		for i, x := range rows() {
			b.serve(t, in(uint32(i+2), x.n))
		}
		if got := told(); got != was {
			t.Errorf("an answer shares memory with the crew: %s, want %s", got, was)
		}
	}
}

// What is put behind a list is in no other one, and not in the crew.
func TestListsAreExtendedApart(t *testing.T) {
	b := busy(t)
	l1, l2 := b.c.Effects(), b.c.Effects()
	l1, l2 = append(l1, api.Effect{Order: 1}), append(l2, api.Effect{Order: 2})
	n1, n2 := b.c.Notices(), b.c.Notices()
	n1, n2 = append(n1, []byte("one")), append(n2, []byte("two"))
	b.wantDone(t, forward(30, 0, api.WorkNotice, 0, "three"))
	if e := l1[len(l1)-1]; e.Order != 1 || l2[len(l2)-1].Order != 2 {
		t.Errorf("%v, %v", l1, l2)
	}
	if string(n1[len(n1)-1]) != "one" || string(n2[len(n2)-1]) != "two" {
		t.Errorf("%q, %q", n1, n2)
	}
	b.wantSame(t, "extended")
}

// Two notices of one answer share no memory, also those of the same name.
func TestNoticesAreApart(t *testing.T) {
	b := begin(t, some())
	b.wantDone(t, forward(7, 0, api.WorkNotice, 0, "same"), forward(7, 1, api.WorkNotice, 0, "same"), back(7, 0, api.WorkNotice, 0, "same"))
	l := b.c.Notices()
	_ = append(l[0], "more"...)
	spoil(l[0])
	if string(l[1]) != "same" || string(l[2]) != "!same" {
		t.Errorf("%q", l)
	}
}

// Crews of the same stores, with the same orders, know nothing of one another.
func TestCrewsAreIndependent(t *testing.T) {
	s := some()
	one, two := begin(t, s), begin(t, s)
	for _, n := range []api.Note{
		forward(7, 0, api.WorkHold, 2, "a"), forward(7, 1, api.WorkAuthorise, 4, "ann"), forward(7, 2, api.WorkCapture, 0, ""),
		in(5, forward(7, 3, api.WorkBook, 2, "")), in(5, forward(7, 4, api.WorkNotice, 0, "hi")), in(6, back(7, 5, api.WorkNotice, 0, "hi")),
	} {
		one.serve(t, n)
		two.wantSame(t, "not used")
	}
	if got, want := two.story(), story(0, nil, nil, untouched); got != want {
		t.Errorf("%s, want %s", got, want)
	}
	for _, n := range []api.Note{
		in(1, forward(7, 0, api.WorkHold, 5, "a")), in(1, forward(7, 1, api.WorkAuthorise, 10, "ann")), in(1, forward(7, 5, api.WorkNotice, 0, "ho")),
		in(1, back(7, 0, api.WorkHold, 5, "a")), in(2, forward(7, 3, api.WorkBook, 3, "")),
	} {
		two.serve(t, n)
		one.wantSame(t, "used before")
	}
	third := begin(t, s)
	for _, n := range []api.Note{in(9, forward(7, 0, api.WorkNotice, 0, "x")), in(1, forward(7, 1, api.WorkNotice, 0, "x"))} {
		third.serve(t, n)
	}
	for _, b := range []both{one, two, third} {
		b.wantSame(t, "in the end")
	}
}

// inUseNow returns how many bytes are in use once the rest was given back.
func inUseNow() uint64 {
	runtime.GC()
	runtime.GC()
	var m runtime.MemStats
	runtime.ReadMemStats(&m)
	return m.HeapAlloc
}

// What comes in is not retained: each text and each list is a piece of one of 1 MiB.
func TestNothingIsRetained(t *testing.T) {
	before := inUseNow()
	var crews []*crew.Crew
	for i := range 20 {
		name := fmt.Sprint("name ", i)
		piece := (name + strings.Repeat("x", 1<<20))[:len(name)]
		goods := slices.Repeat([]api.Good{{Name: piece, Free: 5}}, 1<<15)[:1]
		accounts := slices.Repeat([]api.Account{{Name: piece, Money: 5}}, 1<<15)[:1]
		room := slices.Repeat([]int{5}, 1<<17)[:1]
		c, _ := crew.New(goods, accounts, room)
		for what := 1; what <= 6; what++ {
			for _, undo := range []bool{false, true} {
				data := append(bytesOf(work(what, 2, name)), make([]byte, 1<<20)...)[:6+len(name)]
				c.Serve(note(2, uint32(10+what), what, undo, data))
			}
		}
		crews = append(crews, c)
	}
	if after := inUseNow(); after > before+1<<21 {
		t.Errorf("%d bytes are in use, %d before", after, before)
	}
	for i, c := range crews {
		if got, want := fmt.Sprint(c.Goods(), c.Accounts(), c.Room(0)), fmt.Sprintf("[{name %d 5}] [{name %d 5 0}] 5", i, i); got != want {
			t.Errorf("%s, want %s", got, want)
		}
	}
}

// Steps that change nothing leave nothing behind, however many come.
func TestNothingIsKeptOfWhatChangesNothing(t *testing.T) {
	b := busy(t)
	before := inUseNow()
	for i := range uint32(20000) {
		b.c.Serve(forward(7, 1, api.WorkNotice, 0, "hi"))
		b.c.Serve(forward(7, 1, api.WorkNotice, int(i)+1, "hi"))
		b.c.Serve(in(1, forward(100+i, 1, api.WorkNotice, 0, "hi")))
		b.c.Serve(forward(100+i, 16, api.WorkNotice, 0, "hi"))
	}
	if after := inUseNow(); after > before+1<<20 {
		t.Errorf("%d bytes are in use, %d before", after, before)
	}
	b.wantSame(t, "in the end")
}
