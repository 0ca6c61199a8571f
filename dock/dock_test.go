package dock_test

import (
	"math"
	"slices"
	"testing"

	"drayage/api"
	"drayage/dock"
)

// The chapter's example.
func TestExample(t *testing.T) {
	d := begin(t, []int{2, 0, 3}).d
	wantAnswers(t, d, book(1, 0, 2, 0), book(2, 0, 2, 2), bookNot(3, 0, 2))
	wantState(t, "booked", d, []int{0, 0, 1}, []api.Booking{booked(1, 0, 2), booked(2, 2, 2)})
	wantAnswers(t, d, cancel(1, api.Done))
	wantState(t, "cancelled", d, []int{2, 0, 1}, []api.Booking{booked(2, 2, 2)})
	wantAnswers(t, d, book(3, 0, 2, 0))
	wantState(t, "booked again", d, []int{0, 0, 1}, []api.Booking{booked(3, 0, 2), booked(2, 2, 2)})
}

func TestNew(t *testing.T) {
	for _, x := range ordinary() {
		b := begin(t, x.room)
		wantState(t, x.name, b.d, x.room, nil)
		for day, n := range x.room {
			if n > 0 {
				b.do(t, call{"Book", uint32(day + 1), day, n})
			}
		}
		b.wantSame(t, x.name)
	}
}

func TestNewErrors(t *testing.T) {
	for _, x := range broken() {
		if d, err := dock.New(x.room); d != nil || err != api.ErrArg {
			t.Errorf("%s: New of %d days: %#v, %d, want nil, %d", x.name, len(x.room), d, err, api.ErrArg)
		}
	}
}

// All that New could be handed of three days, by the chapter's words.
func TestNewOfThree(t *testing.T) {
	all := []int{math.MinInt, -1, 0, 1, api.MaxCount, api.MaxCount + 1, math.MaxInt}
	isRight := func(n int) bool { return n == 0 || n == 1 || n == api.MaxCount }
	for _, a := range all {
		for _, b := range all {
			for _, c := range all {
				room := []int{a, b, c}
				if isRight(a) && isRight(b) && isRight(c) {
					begin(t, room).wantSame(t, "three days")
				} else if d, err := dock.New(room); d != nil || err != api.ErrArg {
					t.Errorf("New of %v: %#v, %d", room, d, err)
				}
			}
		}
	}
}

// Each number of days, up to far more than there can be.
func TestNewOfManyDays(t *testing.T) {
	for n := range 300 {
		room := many(n)
		d, err := dock.New(room)
		if n <= api.MaxDays {
			if err != api.OK {
				t.Errorf("New of %d days: %d", n, err)
			}
			wantState(t, "days", d, room, nil)
		} else if d != nil || err != api.ErrArg {
			t.Errorf("New of %d days: %#v, %d", n, d, err)
		}
	}
}

// A dock that was not made leaves nothing behind.
func TestNewAfterErrors(t *testing.T) {
	for _, x := range broken() {
		dock.New(x.room)
		wantState(t, x.name, begin(t, some()).d, some(), nil)
	}
}

// extremes are numbers at the ends of what an int can be, at the ends of what a day and a number of parcels can be, and one to each side.
func extremes() []int {
	return []int{
		math.MinInt, math.MinInt + 1, math.MinInt32, -1, 0, 1, api.MaxDays - 1, api.MaxDays, api.MaxDays + 1,
		api.MaxCount - 1, api.MaxCount, api.MaxCount + 1, math.MaxInt32, 1 << 32, 1<<32 + 1, math.MaxInt - 1, math.MaxInt,
	}
}

// A nil slice and an empty one make the same dock: it has no days, and refuses all.
func TestNoDays(t *testing.T) {
	for _, room := range [][]int{nil, {}, make([]int, 0, 3), some()[:0], some()[6:]} {
		d := begin(t, room).d
		wantAnswersOfNone(t, d)
	}
}

func TestNil(t *testing.T) {
	var d *dock.Dock
	wantAnswersOfNone(t, d)
}

// Beside an error the dock is nil, and answers as nil does.
func TestDockBesideAnError(t *testing.T) {
	d, _ := dock.New([]int{5, 5, -1})
	wantAnswersOfNone(t, d)
}

// wantAnswersOfNone expects the answers of a dock that has no days, or is nil.
func wantAnswersOfNone(t *testing.T, d *dock.Dock) {
	t.Helper()
	for range 2 {
		for _, order := range []uint32{0, 1, greatest} {
			for _, from := range extremes() {
				for _, n := range extremes() {
					wantAnswers(t, d, bookNot(order, from, n))
				}
			}
			wantAnswers(t, d, cancel(order, api.Refused))
		}
		for _, day := range extremes() {
			if got := d.Room(day); got != 0 {
				t.Errorf("Room of day %d: %d", day, got)
			}
		}
		wantState(t, "none", d, nil, nil)
	}
}

// Room answers about each day by itself, whatever was booked on it, and 0 about days that there are not.
func TestRoom(t *testing.T) {
	for _, days := range []int{1, 2, 3, api.MaxDays - 1, api.MaxDays} {
		room := many(days)
		b := begin(t, room)
		wantState(t, "at first", b.d, room, nil)
		for day := range days {
			if room[day] > 1 {
				b.do(t, call{"Book", uint32(day + 1), day, room[day] / 2})
				b.wantSame(t, "booked")
			}
		}
		for day := range days {
			b.do(t, call{what: "Cancel", order: uint32(day + 1)})
			b.wantSame(t, "cancelled")
		}
		wantState(t, "in the end", b.d, room, nil)
	}
}

func TestRoomIsAskedByDay(t *testing.T) {
	d := begin(t, []int{2, 0, 3}).d
	for _, x := range []struct{ day, want int }{{0, 2}, {1, 0}, {2, 3}, {3, 0}, {4, 0}, {-1, 0}, {-2, 0}, {-3, 0}, {math.MinInt, 0}, {math.MaxInt, 0}, {1 << 32, 0}, {-1 << 32, 0}, {1<<32 + 2, 0}} {
		for range 2 {
			if got := d.Room(x.day); got != x.want {
				t.Errorf("Room of day %d: %d, want %d", x.day, got, x.want)
			}
		}
	}
}

// The same calls get the same answers, whatever way the map is gone through.
func TestAnswersAreTheSameEachTime(t *testing.T) {
	b := begin(t, many(api.MaxDays))
	for i := range uint32(80) {
		b.do(t, call{"Book", i*7919%101 + 1, int(i*13%59) - 1, int(i % 9)})
	}
	for range 200 {
		b.wantSame(t, "again")
		if t.Failed() {
			return
		}
	}
}

func FuzzNew(f *testing.F) {
	f.Add(uint8(3), uint8(1), 2)
	f.Add(uint8(api.MaxDays), uint8(59), api.MaxCount)
	f.Add(uint8(api.MaxDays+1), uint8(0), 0)
	f.Add(uint8(api.MaxDays), uint8(0), -1)
	f.Fuzz(func(t *testing.T, days, at uint8, n int) {
		room := many(int(days))
		if days > 0 {
			room[at%days] = n
		}
		isRight := days <= api.MaxDays && (days == 0 || n >= 0 && n <= api.MaxCount)
		d, err := dock.New(room)
		switch {
		case isRight && err == api.OK:
			wantState(t, "fuzzed", d, slices.Clone(room), nil)
		case isRight || d != nil || err != api.ErrArg:
			t.Errorf("New of %v: %#v, %d", room, d, err)
		}
	})
}
