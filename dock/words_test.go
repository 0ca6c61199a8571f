package dock_test

import (
	"math"
	"math/rand"
	"slices"
	"testing"

	"drayage/api"
	"drayage/dock"
)

const greatest = math.MaxUint32 // of orders

// source gives the same numbers in every run, so that a failure can be repeated.
func source() *rand.Rand { return rand.New(rand.NewSource(11)) }

func booked(order uint32, day, n int) api.Booking {
	return api.Booking{Order: order, Day: day, N: n}
}

// many returns n days with different capacities, in no order.
func many(n int) []int {
	var l []int
	for i := range n {
		l = append(l, i*97%61)
	}
	return l
}

// with returns n days of capacity 5, but for one.
func with(n, day, capacity int) []int {
	l := slices.Repeat([]int{5}, n)
	l[day] = capacity
	return l
}

type sample struct {
	name string
	room []int
}

// ordinary returns capacities of which a dock can be made.
func ordinary() []sample {
	all := []sample{
		{"nil", nil},
		{"no days", []int{}},
		{"the chapter's", []int{2, 0, 3}},
		{"some", some()},
		{"two days", []int{1, 2}},
		{"two days without capacity", []int{0, 0}},
		{"less and less", []int{9, 7, 5, 3, 1}},
		{"more and more", []int{0, 1, 2, 4, 8}},
		{"each day the same", []int{3, 3, 3, 3}},
		{"MaxDays - 1 days", many(api.MaxDays - 1)},
		{"MaxDays days", many(api.MaxDays)},
		{"MaxDays days without capacity", make([]int, api.MaxDays)},
		{"MaxDays days of MaxCount", slices.Repeat([]int{api.MaxCount}, api.MaxDays)},
	}
	for _, n := range []int{0, 1, api.MaxDays, api.MaxDays + 1, api.MaxCount - 1, api.MaxCount} {
		all = append(all, sample{"one day", []int{n}})
		for _, days := range []int{3, api.MaxDays} {
			all = append(all,
				sample{"another capacity on the first day", with(days, 0, n)},
				sample{"another capacity on a middle day", with(days, days/2, n)},
				sample{"another capacity on the last day", with(days, days-1, n)})
		}
	}
	return all
}

// some returns days without capacity, with a little, and with as much as there can be.
func some() []int { return []int{3, 0, 5, 2, api.MaxCount, 4} }

// broken returns capacities of which no dock can be made.
func broken() []sample {
	all := []sample{
		{"MaxDays + 1 days", many(api.MaxDays + 1)},
		{"MaxDays + 1 days without capacity", make([]int, api.MaxDays+1)},
		{"MaxDays + 1 days of MaxCount", slices.Repeat([]int{api.MaxCount}, api.MaxDays+1)},
		{"256 days", make([]int, 256)},
		{"256 + 1 days", make([]int, 257)},
		{"1 << 16 + 1 days", make([]int, 1<<16+1)},
		{"MaxDays + 1 days, the last one out of bounds", with(api.MaxDays+1, api.MaxDays, -1)},
		{"MaxDays + 1 days, the first one out of bounds", with(api.MaxDays+1, 0, api.MaxCount+1)},
		{"out of bounds in both directions, around 0", []int{-1, api.MaxCount + 1}},
	}
	for _, n := range []int{-1, -2, -api.MaxCount, math.MinInt32, math.MinInt, api.MaxCount + 1, math.MaxInt32, 1 << 32, 1<<32 + 1, math.MaxInt} {
		all = append(all, sample{"one day out of bounds", []int{n}}, sample{"each day out of bounds", []int{n, n, n}})
		for _, days := range []int{2, 3, api.MaxDays} {
			all = append(all,
				sample{"the first day out of bounds", with(days, 0, n)},
				sample{"a middle day out of bounds", with(days, days/2, n)},
				sample{"the last day out of bounds", with(days, days-1, n)})
		}
	}
	return all
}

// model is a dock by the chapter's words: the capacities of the beginning, and all bookings. What is free is what is left.
type model struct {
	start    []int
	bookings []api.Booking
}

// sum returns how many parcels are booked on a day.
func sum(l []api.Booking, day int) int {
	n := 0
	for _, b := range l {
		if b.Day == day {
			n += b.N
		}
	}
	return n
}

func (m *model) room(day int) int {
	if day < 0 || day >= len(m.start) {
		return 0
	}
	return m.start[day] - sum(m.bookings, day)
}

func (m *model) rooms() []int {
	var l []int
	for day := range m.start {
		l = append(l, m.room(day))
	}
	return l
}

// place returns where the booking of an order is in l, or -1.
func place(l []api.Booking, order uint32) int {
	return slices.IndexFunc(l, func(b api.Booking) bool { return b.Order == order })
}

// call is a call of Book or Cancel.
type call struct {
	what    string
	order   uint32
	from, n int
}

// answer is what a call answers; Cancel answers no day.
type answer struct {
	day, verdict int
}

func (m *model) do(c call) answer {
	at := place(m.bookings, c.order)
	if c.what == "Cancel" {
		if at < 0 {
			return answer{0, api.Refused}
		}
		m.bookings = slices.Delete(m.bookings, at, at+1)
		return answer{0, api.Done}
	}
	if c.order == 0 || c.n < 1 || c.from < 0 || at >= 0 {
		return answer{0, api.Refused}
	}
	for day := c.from; day < len(m.start); day++ {
		if m.room(day) >= c.n {
			m.bookings = append(m.bookings, booked(c.order, day, c.n))
			return answer{day, api.Done}
		}
	}
	return answer{0, api.Refused}
}

// sorted returns the bookings, each one put behind those of earlier days, and behind those of its day with lesser orders.
func (m *model) sorted() []api.Booking {
	var l []api.Booking
	for _, b := range m.bookings {
		at := 0
		for at < len(l) && (l[at].Day < b.Day || l[at].Day == b.Day && l[at].Order < b.Order) {
			at++
		}
		l = slices.Insert(l, at, b)
	}
	return l
}

// both is a dock beside its model.
type both struct {
	d *dock.Dock
	m *model
}

func begin(t *testing.T, room []int) both {
	t.Helper()
	d, err := dock.New(room)
	if err != api.OK || d == nil {
		t.Fatalf("New of %v: %#v, %d", room, d, err)
	}
	return both{d, &model{start: slices.Clone(room)}}
}

// do calls the dock and its model, which have to give the same answer, and returns that.
func (b both) do(t *testing.T, c call) answer {
	t.Helper()
	got, want := doOn(b.d, c), b.m.do(c)
	if got != want {
		t.Errorf("%#v: %v, want %v, with the capacities %v and the bookings %v", c, got, want, b.m.start, b.m.bookings)
	}
	return got
}

func doOn(d *dock.Dock, c call) answer {
	if c.what == "Cancel" {
		return answer{0, d.Cancel(c.order)}
	}
	day, verdict := d.Book(c.order, c.from, c.n)
	return answer{day, verdict}
}

// wantSame expects that the dock tells what its model does.
func (b both) wantSame(t *testing.T, about string) {
	t.Helper()
	wantState(t, about, b.d, b.m.rooms(), b.m.sorted())
}

// wantState expects exactly these days with these free capacities, and these bookings.
func wantState(t *testing.T, about string, d *dock.Dock, rooms []int, bookings []api.Booking) {
	t.Helper()
	for day, n := range rooms {
		if got := d.Room(day); got != n {
			t.Errorf("%s: Room of day %d: %d, want %d", about, day, got, n)
		}
	}
	for _, day := range []int{-1, -len(rooms), math.MinInt32, math.MinInt, math.MinInt + 1, len(rooms), len(rooms) + 1, api.MaxDays, api.MaxDays + 1, math.MaxInt32, 1 << 32, math.MaxInt - 1, math.MaxInt} {
		if got := d.Room(day); got != 0 && (day < 0 || day >= len(rooms)) {
			t.Errorf("%s: Room of day %d: %d, with %d days", about, day, got, len(rooms))
		}
	}
	if got := d.Bookings(); !slices.Equal(got, bookings) {
		t.Errorf("%s: Bookings: %v, want %v", about, got, bookings)
	}
}

// step is a call with the answer that it has to get.
type step struct {
	call
	want answer
}

func book(order uint32, from, n, day int) step {
	return step{call{"Book", order, from, n}, answer{day, api.Done}}
}

// bookNot is a Book that is refused, with the day 0.
func bookNot(order uint32, from, n int) step {
	return step{call{"Book", order, from, n}, answer{0, api.Refused}}
}

func cancel(order uint32, verdict int) step {
	return step{call{what: "Cancel", order: order}, answer{0, verdict}}
}

// wantAnswers makes calls, one after the other.
func wantAnswers(t *testing.T, d *dock.Dock, l ...step) {
	t.Helper()
	for i, x := range l {
		if got := doOn(d, x.call); got != x.want {
			t.Errorf("call %d, %#v: %v, want %v", i, x.call, got, x.want)
		}
	}
}
