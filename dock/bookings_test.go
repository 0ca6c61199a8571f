package dock_test

import (
	"math"
	"slices"
	"testing"

	"drayage/api"
	"drayage/dock"
)

// inUse returns a dock of some, on which days 0, 2 and 3 are full, 6 less than MaxCount parcels are free on day 4, and 3 on the last one, day 5; order 8 was cancelled.
func inUse(t *testing.T) *dock.Dock {
	t.Helper()
	d := begin(t, some()).d
	wantAnswers(t, d,
		book(7, 0, 2, 0), book(3, 1, 4, 2), book(9, 3, 2, 3), book(greatest, 0, 1, 0), book(2, 0, 1, 2),
		book(8, 4, 10, 4), book(5, 0, 6, 4), book(4, 5, 1, 5), cancel(8, api.Done))
	return d
}

func roomsInUse() []int { return []int{0, 0, 0, 0, api.MaxCount - 6, 3} }

func bookingsInUse() []api.Booking {
	return []api.Booking{booked(7, 0, 2), booked(greatest, 0, 1), booked(2, 2, 1), booked(3, 2, 4), booked(9, 3, 2), booked(5, 4, 6), booked(4, 5, 1)}
}

func TestInUse(t *testing.T) {
	wantState(t, "in use", inUse(t), roomsInUse(), bookingsInUse())
}

// refused are calls that the dock in use refuses; most of them for one reason.
var refused = []struct {
	why string
	call
}{
	{"order 0", call{"Book", 0, 0, 1}},
	{"order 0, from a day that has room", call{"Book", 0, 4, 1}},
	{"order 0, all that is free", call{"Book", 0, 5, 3}},
	{"n of 0", call{"Book", 1, 0, 0}},
	{"n of 0, from a day that has room", call{"Book", 1, 4, 0}},
	{"n of 0, from the last day", call{"Book", 1, 5, 0}},
	{"n of -1", call{"Book", 1, 0, -1}},
	{"n of -1, from a day on which as much is booked", call{"Book", 1, 5, -1}},
	{"n of -MaxCount", call{"Book", 1, 0, -api.MaxCount}},
	{"the least n", call{"Book", 1, 0, math.MinInt}},
	{"the least n, from a day that has room", call{"Book", 1, 4, math.MinInt}},
	{"the least n in 32 bits", call{"Book", 1, 4, math.MinInt32}},
	{"the day -1", call{"Book", 1, -1, 1}},
	{"the day -1, all that is free on the last day", call{"Book", 1, -1, 3}},
	{"the day -2", call{"Book", 1, -2, 1}},
	{"the day -6", call{"Book", 1, -6, 1}},
	{"the least day", call{"Book", 1, math.MinInt, 1}},
	{"the least day but one", call{"Book", 1, math.MinInt + 1, 1}},
	{"the least day in 32 bits", call{"Book", 1, math.MinInt32, 1}},
	{"a day that is 4 in its lower half", call{"Book", 1, -1<<32 + 4, 1}},
	{"booked, on the day asked for, with the same n", call{"Book", 4, 5, 1}},
	{"booked, on the day asked for, with another n", call{"Book", 4, 5, 2}},
	{"booked, on the day asked for, with all that is free", call{"Book", 4, 5, 3}},
	{"booked, on a later day, with the same n", call{"Book", 4, 0, 1}},
	{"booked, on a later day, with another n", call{"Book", 4, 4, 7}},
	{"booked, on an earlier day, with the same n", call{"Book", 7, 4, 2}},
	{"booked, on an earlier day, with another n", call{"Book", 7, 5, 1}},
	{"booked, on the day asked for, which is full", call{"Book", 7, 0, 2}},
	{"booked, on the day asked for, which is full, with another n", call{"Book", 7, 0, 1}},
	{"booked, on a day in the middle", call{"Book", 5, 4, 6}},
	{"booked, on a day in the middle, from the first one", call{"Book", 5, 0, 1}},
	{"booked, by the greatest order", call{"Book", greatest, 0, 1}},
	{"booked, by the greatest order, from another day", call{"Book", greatest, 4, 2}},
	{"one more than is free on any day", call{"Book", 1, 0, api.MaxCount - 5}},
	{"one more than is free, from that day", call{"Book", 1, 4, api.MaxCount - 5}},
	{"as much as a day could take at the beginning", call{"Book", 1, 0, api.MaxCount}},
	{"more than any day could take", call{"Book", 1, 0, api.MaxCount + 1}},
	{"just as much as is free on two days together", call{"Book", 1, 0, api.MaxCount - 3}},
	{"one more than is free, from the last day, which is all that it could take at the beginning", call{"Book", 1, 5, 4}},
	{"as much as is free ahead of the last day", call{"Book", 1, 5, api.MaxCount - 6}},
	{"the greatest n", call{"Book", 1, 0, math.MaxInt}},
	{"the greatest n, from the last day", call{"Book", 1, 5, math.MaxInt}},
	{"the greatest n in 32 bits", call{"Book", 1, 0, math.MaxInt32}},
	{"n that is 1 in its lower half", call{"Book", 1, 0, 1<<32 + 1}},
	{"from the number of days", call{"Book", 1, 6, 1}},
	{"from the number of days, as much as is free on the first one that has room", call{"Book", 1, 6, api.MaxCount - 6}},
	{"from the number of days and one", call{"Book", 1, 7, 1}},
	{"from MaxDays - 1", call{"Book", 1, api.MaxDays - 1, 1}},
	{"from MaxDays", call{"Book", 1, api.MaxDays, 1}},
	{"from MaxDays + 1", call{"Book", 1, api.MaxDays + 1, 1}},
	{"from a day that is 4 in its lower half", call{"Book", 1, 1<<32 + 4, 1}},
	{"from the greatest day in 32 bits", call{"Book", 1, math.MaxInt32, 1}},
	{"from the greatest day but one", call{"Book", 1, math.MaxInt - 1, 1}},
	{"from the greatest day", call{"Book", 1, math.MaxInt, 1}},
	{"order 0, and n of 0", call{"Book", 0, 4, 0}},
	{"order 0, and the day -1", call{"Book", 0, -1, 1}},
	{"order 0, and too many", call{"Book", 0, 5, 4}},
	{"order 0, and no such day", call{"Book", 0, 6, 1}},
	{"n of 0, and the day -1", call{"Book", 1, -1, 0}},
	{"n of 0, and booked", call{"Book", 4, 5, 0}},
	{"n of -1, and booked as many", call{"Book", 4, 5, -1}},
	{"n of 0, and no such day", call{"Book", 1, 6, 0}},
	{"the day -1, and booked", call{"Book", 4, -1, 1}},
	{"the day -1, and too many", call{"Book", 1, -1, api.MaxCount}},
	{"booked, and too many", call{"Book", 4, 5, 4}},
	{"booked, and no such day", call{"Book", 4, 6, 1}},
	{"no such day, and too many", call{"Book", 1, 6, api.MaxCount + 1}},
	{"the greatest day, and the greatest n", call{"Book", 1, math.MaxInt, math.MaxInt}},
	{"the least day, and the least n", call{"Book", 1, math.MinInt, math.MinInt}},
	{"the least day, and the greatest n", call{"Book", 1, math.MinInt, math.MaxInt}},
	{"the greatest day, and the least n", call{"Book", 1, math.MaxInt, math.MinInt}},
	{"order 0, the least day, and the least n", call{"Book", 0, math.MinInt, math.MinInt}},

	{"never booked", call{what: "Cancel", order: 1}},
	{"never booked, beside one that is", call{what: "Cancel", order: 6}},
	{"never booked, beside the greatest", call{what: "Cancel", order: greatest - 1}},
	{"never booked, the number of a day", call{what: "Cancel", order: 10}},
	{"cancelled", call{what: "Cancel", order: 8}},
	{"order 0", call{what: "Cancel"}},
}

func TestRefused(t *testing.T) {
	one := inUse(t)
	for _, x := range refused {
		d := inUse(t)
		for range 2 {
			if got, want := doOn(d, x.call), (answer{0, api.Refused}); got != want {
				t.Errorf("%s: %#v: %v, want %v", x.why, x.call, got, want)
			}
			wantState(t, x.why, d, roomsInUse(), bookingsInUse())
		}
		doOn(one, x.call)
	}
	wantState(t, "after all of them", one, roomsInUse(), bookingsInUse())
	// What comes behind them gets the answers that it would have got without them.
	wantAnswers(t, one, book(1, 5, 2, 5), book(6, 0, 1, 4), cancel(3, api.Done), book(8, 0, 4, 2), cancel(4, api.Done), book(4, 5, 2, 5), book(10, 0, api.MaxCount-7, 4), bookNot(3, 0, 1))
	wantState(t, "and behind them", one, []int{0, 0, 0, 0, 0, 0}, []api.Booking{
		booked(7, 0, 2), booked(greatest, 0, 1), booked(2, 2, 1), booked(8, 2, 4), booked(9, 3, 2),
		booked(5, 4, 6), booked(6, 4, 1), booked(10, 4, api.MaxCount-7), booked(1, 5, 2), booked(4, 5, 2),
	})
}

func TestBook(t *testing.T) {
	for _, x := range []struct {
		name string
		step
	}{
		{"the first order, from the first day", book(1, 0, 1, 4)},
		{"from a day without capacity", book(1, 1, 1, 4)},
		{"from a day that is full", book(1, 2, 1, 4)},
		{"from the day ahead of the one that has room", book(1, 3, 1, 4)},
		{"from a day that has room", book(1, 4, 1, 4)},
		{"from the last day, though an earlier one has room", book(1, 5, 1, 5)},
		{"just as much as is free on the last day", book(1, 5, 3, 5)},
		{"as much as is free on the last day, from the first one", book(1, 0, 3, 4)},
		{"one more than is free on the last day, from the first one", book(1, 0, 4, 4)},
		{"one less than is free", book(1, 0, api.MaxCount-7, 4)},
		{"just as much as is free", book(1, 0, api.MaxCount-6, 4)},
		{"just as much as is free, from that day", book(1, 4, api.MaxCount-6, 4)},
		{"an order between others", book(6, 5, 1, 5)},
		{"an order that was cancelled, from its day", book(8, 4, 10, 4)},
		{"an order that was cancelled, from another day", book(8, 5, 2, 5)},
		{"an order of 31 bits and one more", book(1<<31, 0, 2, 4)},
		{"the greatest order but one", book(greatest-1, 0, 2, 4)},
	} {
		d := inUse(t)
		wantAnswers(t, d, x.step)
		rooms, bookings := roomsInUse(), append(bookingsInUse(), booked(x.order, x.want.day, x.n))
		rooms[x.want.day] -= x.n
		slices.SortFunc(bookings, func(a, b api.Booking) int {
			if a.Day != b.Day {
				return a.Day - b.Day
			}
			return int(int64(a.Order) - int64(b.Order))
		})
		wantState(t, x.name, d, rooms, bookings)
	}
}

// Parcels go to the first day with enough room from the day asked for on, whatever there is on days ahead of it and behind it.
func TestFirstDay(t *testing.T) {
	for _, x := range []struct {
		name string
		room []int
		step
	}{
		{"the only day", []int{2}, book(1, 0, 2, 0)},
		{"the only day is too small", []int{2}, bookNot(1, 0, 3)},
		{"the only day lies ahead", []int{2}, bookNot(1, 1, 1)},
		{"each day has room", []int{2, 2, 2}, book(1, 0, 2, 0)},
		{"each day has room, from the middle one", []int{2, 2, 2}, book(1, 1, 2, 1)},
		{"each day has room, from the last one", []int{2, 2, 2}, book(1, 2, 2, 2)},
		{"not the one that has most room", []int{1, 2, 9, 3}, book(1, 0, 2, 1)},
		{"not the one that fits best", []int{1, 9, 3, 2}, book(1, 0, 2, 1)},
		{"not the one with the least room", []int{9, 3, 2, 1}, book(1, 0, 1, 0)},
		{"behind a day without capacity", []int{0, 2}, book(1, 0, 1, 1)},
		{"behind days without capacity", []int{0, 0, 0, 2}, book(1, 0, 1, 3)},
		{"behind days of which each has one too few", []int{1, 1, 1, 2, 2}, book(1, 0, 2, 3)},
		{"behind days that have enough together", []int{3, 3, 3}, bookNot(1, 0, 4)},
		{"not ahead of the day asked for", []int{9, 9, 1, 0, 2}, book(1, 2, 2, 4)},
		{"only ahead of the day asked for", []int{9, 9, 1, 0, 1}, bookNot(1, 2, 2)},
		{"just ahead of the day asked for", []int{0, 2, 1}, bookNot(1, 2, 2)},
		{"just on the day asked for", []int{9, 2, 1}, book(1, 1, 2, 1)},
		{"one too few on the day asked for", []int{9, 1, 1}, bookNot(1, 1, 2)},
		{"MaxCount, on the last one of MaxDays", with(api.MaxDays, api.MaxDays-1, api.MaxCount), book(1, 0, api.MaxCount, api.MaxDays-1)},
		{"MaxCount, from the last one of MaxDays", with(api.MaxDays, api.MaxDays-1, api.MaxCount), book(1, api.MaxDays-1, api.MaxCount, api.MaxDays-1)},
		{"MaxCount, on the first one of MaxDays", with(api.MaxDays, 0, api.MaxCount), book(1, 0, api.MaxCount, 0)},
		{"MaxCount, behind the first one of MaxDays", with(api.MaxDays, 0, api.MaxCount), bookNot(1, 1, api.MaxCount)},
		{"from MaxDays", with(api.MaxDays, api.MaxDays-1, api.MaxCount), bookNot(1, api.MaxDays, 1)},
	} {
		d := begin(t, x.room).d
		wantAnswers(t, d, x.step)
		rooms := slices.Clone(x.room)
		var bookings []api.Booking
		if x.want.verdict == api.Done {
			rooms[x.want.day] -= x.n
			bookings = []api.Booking{booked(x.order, x.want.day, x.n)}
		}
		wantState(t, x.name, d, rooms, bookings)
	}
}

// All small docks, and all that could be booked on them.
func TestAllSmallDocks(t *testing.T) {
	var all [][]int
	for a := range 4 {
		all = append(all, []int{a})
		for b := range 4 {
			all = append(all, []int{a, b})
			for c := range 4 {
				all = append(all, []int{a, b, c})
			}
		}
	}
	for _, room := range all {
		for from := -1; from <= len(room)+1; from++ {
			for n := -1; n <= 4; n++ {
				b := begin(t, room)
				b.do(t, call{"Book", 1, from, n})
				b.wantSame(t, "one booking")
				b.do(t, call{"Book", 2, from, n})
				b.wantSame(t, "two bookings")
			}
		}
	}
}

// Days fill up one after the other; a day that has some room left takes who fits there.
func TestDaysFillUp(t *testing.T) {
	d := begin(t, []int{5, 4, 0, 5}).d
	wantAnswers(t, d,
		book(1, 0, 3, 0), book(2, 0, 3, 1), book(3, 0, 3, 3), bookNot(4, 0, 3), // 2, 1, 0 and 2 are left
		book(4, 0, 2, 0), book(5, 0, 2, 3), bookNot(6, 0, 2), // 1 is left, on day 1
		bookNot(6, 2, 1), book(6, 0, 1, 1), bookNot(7, 0, 1))
	wantState(t, "full", d, []int{0, 0, 0, 0}, []api.Booking{booked(1, 0, 3), booked(4, 0, 2), booked(2, 1, 3), booked(6, 1, 1), booked(3, 3, 3), booked(5, 3, 2)})
}

// A day can be booked up in one go, by many orders, and once more after they were cancelled.
func TestBookAll(t *testing.T) {
	d := begin(t, []int{100, api.MaxCount}).d
	wantAnswers(t, d, book(1, 0, api.MaxCount, 1), bookNot(2, 1, 1))
	var bookings []api.Booking
	for i := range uint32(100) {
		wantAnswers(t, d, book(1000-i, 0, 1, 0))
		bookings = slices.Insert(bookings, 0, booked(1000-i, 0, 1))
	}
	wantState(t, "by many orders", d, []int{0, 0}, append(bookings, booked(1, 1, api.MaxCount)))
	wantAnswers(t, d, bookNot(2, 0, 1), cancel(1, api.Done))
	wantState(t, "by many orders alone", d, []int{0, api.MaxCount}, bookings)
	for i := range uint32(100) {
		wantAnswers(t, d, cancel(901+i, api.Done), cancel(901+i, api.Refused))
	}
	wantState(t, "cancelled", d, []int{100, api.MaxCount}, nil)
	wantAnswers(t, d, book(2, 0, 100, 0), bookNot(2, 0, 1), book(1, 0, 1, 1), bookNot(3, 0, api.MaxCount), book(3, 0, api.MaxCount-1, 1), bookNot(4, 0, 1))
	wantState(t, "in the end", d, []int{0, 0}, []api.Booking{booked(2, 0, 100), booked(1, 1, 1), booked(3, 1, api.MaxCount-1)})
}

// One cancelling removes the booking of its order, and gives its day back what that had, and nothing else.
func TestOneCancel(t *testing.T) {
	for i, b := range bookingsInUse() {
		d := inUse(t)
		wantAnswers(t, d, cancel(b.Order, api.Done))
		rooms, bookings := roomsInUse(), slices.Delete(bookingsInUse(), i, i+1)
		rooms[b.Day] += b.N
		wantState(t, "cancelled", d, rooms, bookings)
		wantAnswers(t, d, cancel(b.Order, api.Refused))
		wantState(t, "cancelled, and again", d, rooms, bookings)
		wantAnswers(t, d, book(b.Order, b.Day, b.N, b.Day), bookNot(b.Order, b.Day, b.N))
		wantState(t, "booked again", d, roomsInUse(), bookingsInUse())
	}
}

func TestCancel(t *testing.T) {
	d := inUse(t)
	for _, order := range []uint32{0, 1, 6, 8, 10, 1 << 31, greatest - 1} {
		wantAnswers(t, d, cancel(order, api.Refused))
	}
	wantState(t, "refused", d, roomsInUse(), bookingsInUse())
	wantAnswers(t, d, cancel(greatest, api.Done), cancel(greatest, api.Refused), cancel(5, api.Done), cancel(4, api.Done), cancel(5, api.Refused))
	wantState(t, "some cancelled", d, []int{1, 0, 0, 0, api.MaxCount, 4}, []api.Booking{booked(7, 0, 2), booked(2, 2, 1), booked(3, 2, 4), booked(9, 3, 2)})
	wantAnswers(t, d, cancel(2, api.Done), cancel(3, api.Done), cancel(9, api.Done), cancel(7, api.Done))
	wantState(t, "all cancelled", d, some(), nil)
	for _, b := range bookingsInUse() {
		wantAnswers(t, d, cancel(b.Order, api.Refused))
	}
	wantState(t, "all cancelled, and again", d, some(), nil)
}

// An order that was cancelled may be booked again: on its day, with other parcels, or on an earlier day that has become free.
func TestBookAfterCancel(t *testing.T) {
	d := begin(t, []int{2, 0, 3, 4}).d
	wantAnswers(t, d, book(1, 0, 2, 0), book(2, 0, 2, 2), book(3, 0, 3, 3))
	wantAnswers(t, d, cancel(2, api.Done), book(2, 0, 2, 2))
	wantState(t, "on its day", d, []int{0, 0, 1, 1}, []api.Booking{booked(1, 0, 2), booked(2, 2, 2), booked(3, 3, 3)})
	wantAnswers(t, d, cancel(2, api.Done), book(2, 0, 3, 2))
	wantState(t, "on its day, with more", d, []int{0, 0, 0, 1}, []api.Booking{booked(1, 0, 2), booked(2, 2, 3), booked(3, 3, 3)})
	wantAnswers(t, d, cancel(1, api.Done), bookNot(2, 0, 2))
	wantState(t, "an earlier day has become free", d, []int{2, 0, 0, 1}, []api.Booking{booked(2, 2, 3), booked(3, 3, 3)})
	wantAnswers(t, d, cancel(2, api.Done), book(2, 0, 2, 0))
	wantState(t, "on the earlier day", d, []int{0, 0, 3, 1}, []api.Booking{booked(2, 0, 2), booked(3, 3, 3)})
	wantAnswers(t, d, cancel(3, api.Done), book(3, 0, 3, 2), book(1, 0, 2, 3))
	wantState(t, "the others too", d, []int{0, 0, 0, 2}, []api.Booking{booked(2, 0, 2), booked(3, 2, 3), booked(1, 3, 2)})
	wantAnswers(t, d, cancel(2, api.Done), book(2, 1, 2, 3))
	wantState(t, "on a later day", d, []int{2, 0, 0, 0}, []api.Booking{booked(3, 2, 3), booked(1, 3, 2), booked(2, 3, 2)})
}

func TestBookingsAreSorted(t *testing.T) {
	orders := []uint32{1, 2, 9, 10, 255, 256, 1<<16 - 1, 1 << 16, 1<<31 - 1, 1 << 31, 1<<31 + 1, greatest - 1, greatest}
	// Neither the orders rise with the days, nor the parcels with the orders.
	var want []api.Booking
	for day := range api.MaxDays {
		for i, order := range orders {
			if (i+day)%5 == 0 && place(want, order) < 0 {
				want = append(want, booked(order, day, 20-i))
			}
		}
	}
	if len(want) != len(orders) || want[0].Day == want[len(want)-1].Day {
		t.Fatalf("%v", want)
	}
	r := source()
	for range 300 {
		b := begin(t, slices.Repeat([]int{300}, api.MaxDays))
		for _, i := range r.Perm(len(want)) {
			b.do(t, call{"Book", want[i].Order, want[i].Day, want[i].N})
		}
		if got := b.d.Bookings(); !slices.Equal(got, want) {
			t.Errorf("Bookings: %v, want %v", got, want)
		}
		b.wantSame(t, "sorted")
	}
}

// All orders in which six bookings can come: by day, and those of one day by order.
func TestBookingsAreSortedFromAnyOrder(t *testing.T) {
	want := []api.Booking{booked(3, 0, 2), booked(greatest, 0, 1), booked(1, 1, 1), booked(2, 1, 9), booked(1<<31, 1, 3), booked(4, 2, 1)}
	var try func(chosen []api.Booking)
	try = func(chosen []api.Booking) {
		if len(chosen) == len(want) {
			d := begin(t, []int{50, 50, 50}).d
			for _, b := range chosen {
				wantAnswers(t, d, book(b.Order, b.Day, b.N, b.Day))
			}
			wantState(t, "sorted", d, []int{47, 37, 49}, want)
			return
		}
		for _, b := range want {
			if !slices.Contains(chosen, b) {
				try(append(slices.Clone(chosen), b))
			}
		}
	}
	try(nil)
}
