package dock_test

import (
	"slices"
	"testing"

	"drayage/api"
	"drayage/dock"
)

// wantConserved expects, by the dock's own answers, that on each day what is booked and what is free add up to the capacity of the beginning.
func wantConserved(t *testing.T, d *dock.Dock, start []int) {
	t.Helper()
	bookings := d.Bookings()
	for day, n := range start {
		if room := d.Room(day); room < 0 || room+sum(bookings, day) != n {
			t.Errorf("day %d has room for %d, which does not add up to %d with %v", day, room, n, bookings)
		}
	}
	var seen []api.Booking
	for i, b := range bookings {
		if b.Order == 0 || b.N < 1 || b.Day < 0 || b.Day >= len(start) || place(seen, b.Order) >= 0 {
			t.Errorf("%v among the bookings %v", b, bookings)
		}
		if i > 0 && (bookings[i-1].Day > b.Day || bookings[i-1].Day == b.Day && bookings[i-1].Order >= b.Order) {
			t.Errorf("Bookings: %v", bookings)
		}
		seen = append(seen, b)
	}
}

// snapshot is all that a dock tells.
type snapshot struct {
	rooms    []int
	bookings []api.Booking
}

func snapshotOf(b both) snapshot {
	x := snapshot{bookings: b.d.Bookings()}
	for day := range b.m.start {
		x.rooms = append(x.rooms, b.d.Room(day))
	}
	return x
}

func (x snapshot) equals(y snapshot) bool {
	return slices.Equal(x.rooms, y.rooms) && slices.Equal(x.bookings, y.bookings)
}

// wantFirstDay expects that a Book went to the first day that had room, by what the dock told ahead of it and behind it.
func wantFirstDay(t *testing.T, c call, got answer, before, after snapshot) {
	t.Helper()
	first := -1
	for day, room := range before.rooms {
		if first < 0 && c.from >= 0 && day >= c.from && room >= c.n {
			first = day
		}
	}
	if got.verdict == api.Refused {
		if first >= 0 && c.order != 0 && c.n > 0 && place(before.bookings, c.order) < 0 {
			t.Errorf("%#v was refused, where day %d of %v had room", c, first, before.rooms)
		}
		return
	}
	if got.day != first {
		t.Errorf("%#v went to day %d of %v", c, got.day, before.rooms)
		return
	}
	rooms := slices.Clone(before.rooms)
	rooms[first] -= c.n
	if !slices.Equal(rooms, after.rooms) || !slices.Contains(after.bookings, booked(c.order, first, c.n)) || len(after.bookings) != len(before.bookings)+1 {
		t.Errorf("%#v made %v of %v", c, after, before)
	}
}

// drawCall returns a call with arguments at and around the bounds; draw returns a number from 0 up to less than its argument.
func drawCall(b both, draw func(n int) int) call {
	orders := []uint32{0, 1, 2, 3, 4, 5, 6, 7, 8, 9, 10, 11, 12, 1 << 31, greatest}
	c := call{order: orders[draw(len(orders))]}
	c.what = []string{"Book", "Book", "Book", "Cancel", "Cancel"}[draw(5)]
	if c.what == "Book" {
		days := len(b.m.start)
		near := draw(days + 1)
		c.from = []int{0, 0, near, near, near, days - 1, days, days + 1, -1}[draw(9)]
		left := b.m.room(near)
		c.n = []int{1, 1, 2, left - 1, left, left + 1, 0, -1, left / 2, left/3 + 1}[draw(10)]
	}
	return c
}

// play makes n drawn calls, and expects the properties and the model's answers after each; counts is how often each call had each verdict.
func play(t *testing.T, b both, n int, draw func(n int) int, counts map[step]int) {
	t.Helper()
	for range n {
		c := drawCall(b, draw)
		before := snapshotOf(b)
		got := b.do(t, c)
		after := snapshotOf(b)
		counts[step{call{what: c.what}, answer{0, got.verdict}}]++
		if got.verdict == api.Refused && !before.equals(after) {
			t.Errorf("%#v was refused, and made %v of %v", c, after, before)
		}
		if c.what == "Book" {
			wantFirstDay(t, c, got, before, after)
		}
		wantConserved(t, b.d, b.m.start)
		b.wantSame(t, "drawn")
		if t.Failed() {
			t.FailNow()
		}
	}
}

func TestAnyCalls(t *testing.T) {
	r := source()
	counts := map[step]int{}
	for range 10 {
		for _, x := range ordinary() {
			play(t, begin(t, x.room), 200, r.Intn, counts)
		}
	}
	for _, what := range []string{"Book", "Cancel"} {
		for _, verdict := range []int{api.Done, api.Refused} {
			if n := counts[step{call{what: what}, answer{0, verdict}}]; n < 500 {
				t.Errorf("%s had the verdict %d %d times: too few to tell", what, verdict, n)
			}
		}
	}
}

// What is booked and cancelled leaves everything as it was, at whatever point.
func TestThereAndBack(t *testing.T) {
	r := source()
	done := 0
	for range 2000 {
		b := begin(t, some())
		play(t, b, r.Intn(30), r.Intn, map[step]int{})
		before := snapshotOf(b)
		c := drawCall(b, r.Intn)
		c.what, c.order = "Book", 99
		if b.do(t, c).verdict == api.Done {
			done++
			b.do(t, call{what: "Cancel", order: 99})
		}
		if after := snapshotOf(b); !before.equals(after) {
			t.Errorf("%#v and its end made %v of %v", c, after, before)
		}
		play(t, b, 10, r.Intn, map[step]int{})
	}
	if done < 100 {
		t.Errorf("%d bookings: too few to tell", done)
	}
}

// All bookings are cancelled, in any order: all capacity is as it was, and can be booked again.
func TestAllGivenBack(t *testing.T) {
	r := source()
	for range 200 {
		start := many(20)
		b := begin(t, start)
		play(t, b, 60, r.Intn, map[step]int{})
		bookings := b.d.Bookings()
		for _, i := range r.Perm(len(bookings)) {
			b.do(t, call{what: "Cancel", order: bookings[i].Order})
		}
		wantState(t, "all given back", b.d, start, nil)
		for day, n := range start {
			if n > 0 {
				wantAnswers(t, b.d, book(uint32(day+1), day, n, day))
			}
		}
		wantConserved(t, b.d, start)
	}
}

// All sequences of four calls by two orders on a small dock.
func TestAllShortSequences(t *testing.T) {
	var calls []call
	for order := uint32(1); order <= 2; order++ {
		for from := range 3 {
			for n := 1; n <= 2; n++ {
				calls = append(calls, call{"Book", order, from, n})
			}
		}
		calls = append(calls, call{what: "Cancel", order: order})
	}
	start := []int{2, 0, 3}
	last := len(calls) * len(calls) * len(calls) * len(calls)
	for i := range last {
		b := begin(t, start)
		at := i
		for range 4 {
			b.do(t, calls[at%len(calls)])
			at /= len(calls)
		}
		b.wantSame(t, "short")
		wantConserved(t, b.d, start)
		if t.Failed() {
			t.Fatalf("in sequence %d", i)
		}
	}
}

// An order has one booking at a time, however often it asks, and on whatever day.
func TestEachOrderIsBookedOnce(t *testing.T) {
	b := begin(t, []int{1000, 1000, 1000})
	for i := range uint32(200) {
		for range 3 {
			for from := range 3 {
				b.do(t, call{"Book", i + 1, (from + int(i)) % 3, 5})
			}
		}
	}
	wantConserved(t, b.d, b.m.start)
	b.wantSame(t, "booked")
	if l := b.d.Bookings(); len(l) != 200 {
		t.Errorf("%d bookings", len(l))
	}
	for i := range uint32(200) {
		for range 3 {
			b.do(t, call{what: "Cancel", order: i + 1})
		}
	}
	wantState(t, "cancelled", b.d, b.m.start, nil)
}

// So many orders have bookings as there is capacity.
func TestManyOrders(t *testing.T) {
	start := slices.Repeat([]int{50}, api.MaxDays)
	d := begin(t, start).d
	r := source()
	var want []api.Booking
	for _, at := range r.Perm(50 * api.MaxDays) {
		day := len(want) / 50
		want = append(want, booked(uint32(at+1), day, 1))
		wantAnswers(t, d, book(uint32(at+1), 0, 1, day))
	}
	wantAnswers(t, d, bookNot(5000, 0, 1), bookNot(5000, api.MaxDays-1, 1))
	for day := range api.MaxDays {
		slices.SortFunc(want[day*50:day*50+50], func(a, b api.Booking) int { return int(a.Order) - int(b.Order) })
	}
	wantState(t, "all booked", d, make([]int, api.MaxDays), want)
	rooms := make([]int, api.MaxDays)
	var left []api.Booking
	for i, b := range want {
		if i%3 == 0 {
			left = append(left, b)
			continue
		}
		rooms[b.Day]++
		wantAnswers(t, d, cancel(b.Order, api.Done))
	}
	wantState(t, "most of them cancelled", d, rooms, left)
	wantConserved(t, d, start)
}

func FuzzCalls(f *testing.F) {
	f.Add(uint8(3), []byte("Book and Cancel, and what comes behind them"))
	f.Add(uint8(9), []byte{1, 0, 2, 0, 1, 1, 3, 2, 0, 1, 0, 0, 0, 5, 4, 2, 4, 3, 1, 8, 3, 3, 4})
	f.Fuzz(func(t *testing.T, beginning uint8, b []byte) {
		all := ordinary()
		at := 0
		draw := func(n int) int {
			if at == len(b) {
				return 0
			}
			at++
			return int(b[at-1]) % n
		}
		play(t, begin(t, all[int(beginning)%len(all)].room), min(len(b)/4+1, 200), draw, map[step]int{})
	})
}

// Any arguments at all, also those far from the bounds.
func FuzzArguments(f *testing.F) {
	for _, n := range extremes() {
		f.Add(uint32(n), n, 1)
		f.Add(uint32(7), 0, n)
		f.Add(uint32(1), n, n)
	}
	f.Fuzz(func(t *testing.T, order uint32, from, n int) {
		b := begin(t, some())
		b.do(t, call{"Book", 7, 0, 2})
		b.do(t, call{"Book", order, from, n})
		b.do(t, call{"Book", order, from, n})
		b.wantSame(t, "booked")
		wantConserved(t, b.d, b.m.start)
		if got, want := b.d.Room(from), b.m.room(from); got != want {
			t.Errorf("Room of day %d: %d, want %d", from, got, want)
		}
		b.do(t, call{what: "Cancel", order: order})
		b.do(t, call{what: "Cancel", order: order})
		b.wantSame(t, "cancelled")
	})
}
