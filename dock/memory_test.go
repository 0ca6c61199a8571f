package dock_test

import (
	"runtime"
	"slices"
	"testing"

	"drayage/api"
	"drayage/dock"
)

// spoil writes over a list, and over the room behind it.
func spoil[T any](l []T, with T) {
	l = l[:cap(l)]
	for i := range l {
		l[i] = with
	}
}

func TestNewLeavesItsArgument(t *testing.T) {
	for _, x := range append(ordinary(), broken()...) {
		l := append(slices.Clone(x.room), 7)
		before := slices.Clone(l)
		dock.New(l[:len(x.room)])
		if !slices.Equal(l, before) {
			t.Errorf("%s: New made %v of %v", x.name, l, before)
		}
	}
}

// The calls of a dock leave the capacities of which it was made as they were.
func TestCallsLeaveTheArgumentOfNew(t *testing.T) {
	room := append(some(), 7)
	d, _ := dock.New(room[:6])
	wantAnswers(t, d, book(1, 0, 3, 0), book(2, 0, 5, 2), book(3, 5, 4, 5), bookNot(4, 5, 1), cancel(2, api.Done), book(5, 1, 1, 2), cancel(3, api.Done))
	if want := append(some(), 7); !slices.Equal(room, want) {
		t.Errorf("%v, want %v", room, want)
	}
}

// useAll books something on each day that has room.
func useAll(t *testing.T, b both) {
	t.Helper()
	for day, n := range b.m.start {
		b.do(t, call{"Book", uint32(day*31%97 + 1), day, n/2 + 1})
	}
}

// What New was handed may be written over later.
func TestNewSharesNoMemory(t *testing.T) {
	for _, x := range ordinary() {
		room := slices.Clone(x.room)
		one, two := begin(t, room), begin(t, room)
		useAll(t, one)
		spoil(room, 77)
		one.wantSame(t, x.name)
		two.wantSame(t, x.name)
		useAll(t, two)
		for day := range x.room {
			two.do(t, call{what: "Cancel", order: uint32(day*31%97 + 1)})
		}
		spoil(room, -1)
		one.wantSame(t, x.name)
		two.wantSame(t, x.name)
	}
}

// Each answer is memory of its own: neither another answer nor the dock changes with it, nor it with them.
func TestAnswersShareNoMemory(t *testing.T) {
	for _, x := range ordinary() {
		b := begin(t, x.room)
		useAll(t, b)
		l, other := b.d.Bookings(), b.d.Bookings()
		spoil(l, booked(77, 7, 7))
		was := b.m.sorted()
		if !slices.Equal(other, was) {
			t.Errorf("%s: two answers share memory: %v", x.name, other)
		}
		b.wantSame(t, x.name)

		for _, k := range was {
			b.do(t, call{what: "Cancel", order: k.Order})
			b.do(t, call{"Book", k.Order + 100, 0, 1})
			b.wantSame(t, x.name)
		}
		if !slices.Equal(other, was) {
			t.Errorf("%s: an answer shares memory with the dock: %v", x.name, other)
		}
	}
}

// What is put behind an answer is in no other one, and not in the dock.
func TestAnswersAreExtendedApart(t *testing.T) {
	b := begin(t, some())
	b.do(t, call{"Book", 1, 0, 1})
	one, two := b.d.Bookings(), b.d.Bookings()
	one, two = append(one, booked(2, 2, 1)), append(two, booked(3, 3, 2))
	if one[1] != booked(2, 2, 1) || two[1] != booked(3, 3, 2) {
		t.Errorf("%v, %v", one, two)
	}
	b.wantSame(t, "extended")
}

// Docks of the same capacities, with the same orders, know nothing of one another.
func TestDocksAreIndependent(t *testing.T) {
	room := some()
	one, two := begin(t, room), begin(t, room)
	for _, c := range []call{{"Book", 7, 0, 3}, {"Book", 8, 0, 5}, {what: "Cancel", order: 7}, {"Book", 9, 4, api.MaxCount}, {"Book", 7, 0, 1}, {what: "Cancel", order: 8}} {
		one.do(t, c)
		one.wantSame(t, "used")
		two.wantSame(t, "not used")
	}
	for _, c := range []call{{what: "Cancel", order: 7}, {"Book", 7, 0, 3}, {"Book", 8, 0, 1}, {what: "Cancel", order: 9}, {"Book", 9, 0, 4}, {what: "Cancel", order: 7}} {
		two.do(t, c)
		one.wantSame(t, "used before")
		two.wantSame(t, "used too")
	}
	third := begin(t, room[:2])
	third.do(t, call{"Book", 7, 0, 4})
	third.do(t, call{"Book", 7, 0, 2})
	for _, b := range []both{one, two, third} {
		b.wantSame(t, "in the end")
	}
}

// inUseNow returns how many bytes are in use once the rest was given back.
func inUseNow() uint64 {
	runtime.GC()
	runtime.GC()
	var m runtime.MemStats
	runtime.ReadMemStats(&m)
	return m.HeapAlloc
}

// The capacities that come in are not retained: each list is a piece of one of 1 MiB.
func TestListsAreNotRetained(t *testing.T) {
	before := inUseNow()
	var docks []*dock.Dock
	for i := range 50 {
		room := slices.Repeat([]int{i}, 1<<17)[:api.MaxDays]
		d, _ := dock.New(room)
		docks = append(docks, d)
	}
	if after := inUseNow(); after > before+1<<22 {
		t.Errorf("%d bytes are in use, %d before", after, before)
	}
	for i, d := range docks {
		if got := d.Room(api.MaxDays - 1); got != i {
			t.Errorf("Room of dock %d: %d", i, got)
		}
	}
}

// What is over is not kept: orders without number come and go.
func TestCancelledBookingsAreNotKept(t *testing.T) {
	d := begin(t, []int{5}).d
	before := inUseNow()
	for i := range uint32(1 << 18) {
		wantAnswers(t, d, book(i+1, 0, 5, 0), cancel(i+1, api.Done))
	}
	if after := inUseNow(); after > before+1<<20 {
		t.Errorf("%d bytes are in use, %d before", after, before)
	}
	wantState(t, "in the end", d, []int{5}, nil)
}
