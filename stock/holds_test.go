package stock_test

import (
	"math"
	"slices"
	"testing"

	"drayage/api"
	"drayage/stock"
)

// inUse returns a stock of some, with units of each state: order 7 holds 2 of a, order 3 all of ab, the greatest order 1 of full, and an order has gone with 1 of a.
func inUse(t *testing.T) *stock.Stock {
	t.Helper()
	s := begin(t, some()).s
	wantVerdicts(t, s, []verdict{
		hold(7, "a", 2, api.Done), hold(greatest, "full", 1, api.Done), hold(5, "a", 1, api.Done), hold(3, "ab", 3, api.Done), ship(5, api.Done),
	})
	return s
}

func goodsInUse() []api.Good {
	return []api.Good{good("a", 2), good("ab", 0), good("b", 1), good("full", api.MaxCount-1), good("none", 0)}
}

func holdsInUse() []api.Hold {
	return []api.Hold{held(3, "ab", 3), held(7, "a", 2), held(greatest, "full", 1)}
}

func goneInUse() map[string]int { return map[string]int{"a": 1} }

func TestInUse(t *testing.T) {
	wantState(t, "in use", inUse(t), goodsInUse(), holdsInUse(), goneInUse())
}

// refused are calls that the stock in use refuses; most of them for one reason.
var refused = []struct {
	why string
	call
}{
	{"order 0", call{"Hold", 0, "a", 1}},
	{"order 0, all that are free", call{"Hold", 0, "b", 1}},
	{"n of 0", call{"Hold", 1, "a", 0}},
	{"n of -1", call{"Hold", 1, "a", -1}},
	{"n of -1, of full, of which one is held", call{"Hold", 1, "full", -1}},
	{"the least n", call{"Hold", 1, "a", math.MinInt}},
	{"the least n in 32 bits", call{"Hold", 1, "a", math.MinInt32}},
	{"n of 0, of none", call{"Hold", 1, "none", 0}},
	{"n of -1, of none", call{"Hold", 1, "none", -1}},
	{"the order holds of this kind", call{"Hold", 7, "a", 1}},
	{"the order holds as many of this kind", call{"Hold", 7, "a", 2}},
	{"the order holds of another kind", call{"Hold", 7, "b", 1}},
	{"another order holds of another kind", call{"Hold", 3, "a", 1}},
	{"the greatest order holds", call{"Hold", greatest, "full", 1}},
	{"the greatest order holds of another kind", call{"Hold", greatest, "a", 1}},
	{"no such kind", call{"Hold", 1, "c", 1}},
	{"no such kind, but one that begins with it", call{"Hold", 1, "ful", 1}},
	{"no such kind, but one with which it begins", call{"Hold", 1, "fully", 1}},
	{"no such kind, but one in small letters", call{"Hold", 1, "A", 1}},
	{"no such kind: the empty name", call{"Hold", 1, "", 1}},
	{"no such kind: a nought behind a name", call{"Hold", 1, "a\x00", 1}},
	{"no such kind: MaxKey + 1 bytes", call{"Hold", 1, long(api.MaxKey + 1), 1}},
	{"no such kind: many bytes", call{"Hold", 1, long(1 << 16), 1}},
	{"one more than are free", call{"Hold", 1, "a", 3}},
	{"one more than are free, of b", call{"Hold", 1, "b", 2}},
	{"one more than are free, of full", call{"Hold", 1, "full", api.MaxCount}},
	{"one more than there ever were", call{"Hold", 1, "full", api.MaxCount + 1}},
	{"as many as there were at the beginning", call{"Hold", 1, "a", 5}},
	{"as many as are free or gone", call{"Hold", 1, "a", 3}},
	{"as many as are free or held", call{"Hold", 1, "a", 4}},
	{"one of none", call{"Hold", 1, "none", 1}},
	{"one where all are held", call{"Hold", 1, "ab", 1}},
	{"the greatest n", call{"Hold", 1, "a", math.MaxInt}},
	{"the greatest n, of full", call{"Hold", 1, "full", math.MaxInt}},
	{"the greatest n in 32 bits", call{"Hold", 1, "a", math.MaxInt32}},
	{"n that is 1 in its lower half", call{"Hold", 1, "a", 1<<32 + 1}},
	{"order 0, and n of 0", call{"Hold", 0, "a", 0}},
	{"order 0, and no such kind", call{"Hold", 0, "c", 1}},
	{"order 0, and too many", call{"Hold", 0, "a", 3}},
	{"n of 0, and the order holds", call{"Hold", 7, "a", 0}},
	{"n of -2, and the order holds as many", call{"Hold", 7, "a", -2}},
	{"n of 0, and no such kind", call{"Hold", 1, "c", 0}},
	{"the order holds, and no such kind", call{"Hold", 7, "c", 1}},
	{"the order holds, and too many", call{"Hold", 7, "a", 3}},
	{"no such kind, and too many", call{"Hold", 1, "c", math.MaxInt}},
	{"all at once", call{"Hold", 0, "", math.MinInt}},

	{"never held", call{what: "Free", order: 1}},
	{"never held", call{what: "Ship", order: 1}},
	{"never held, beside one that holds", call{what: "Free", order: 8}},
	{"never held, beside one that holds", call{what: "Ship", order: 6}},
	{"never held, beside the greatest", call{what: "Free", order: greatest - 1}},
	{"never held, beside the greatest", call{what: "Ship", order: greatest - 1}},
	{"shipped", call{what: "Free", order: 5}},
	{"shipped", call{what: "Ship", order: 5}},
	{"order 0", call{what: "Free"}},
	{"order 0", call{what: "Ship"}},
}

func TestRefused(t *testing.T) {
	one := inUse(t)
	for _, x := range refused {
		s := inUse(t)
		for range 2 {
			if got := doOn(s, x.call); got != api.Refused {
				t.Errorf("%s: %#v: %d, want %d", x.why, x.call, got, api.Refused)
			}
			wantState(t, x.why, s, goodsInUse(), holdsInUse(), goneInUse())
		}
		doOn(one, x.call)
	}
	wantState(t, "after all of them", one, goodsInUse(), holdsInUse(), goneInUse())
	// What comes behind them gets the answers that it would have got without them.
	wantVerdicts(t, one, []verdict{hold(1, "a", 2, api.Done), hold(6, "b", 1, api.Done), ship(7, api.Done), free(3, api.Done), ship(greatest, api.Done), hold(7, "ab", 3, api.Done)})
	wantState(t, "and behind them", one, []api.Good{good("a", 0), good("ab", 0), good("b", 0), good("full", api.MaxCount-1), good("none", 0)},
		[]api.Hold{held(1, "a", 2), held(6, "b", 1), held(7, "ab", 3)}, map[string]int{"a": 3, "full": 1})
}

func TestHold(t *testing.T) {
	for _, x := range []struct {
		name string
		call
	}{
		{"the first order", call{"Hold", 1, "a", 1}},
		{"just as many as are free", call{"Hold", 1, "a", 2}},
		{"the only one", call{"Hold", 1, "b", 1}},
		{"one of many", call{"Hold", 1, "full", 1}},
		{"one less than are free of many", call{"Hold", 1, "full", api.MaxCount - 2}},
		{"just as many as are free of many", call{"Hold", 1, "full", api.MaxCount - 1}},
		{"an order between others", call{"Hold", 6, "a", 1}},
		{"the greatest order but one", call{"Hold", greatest - 1, "a", 2}},
		{"an order of 31 bits and one more", call{"Hold", 1 << 31, "a", 2}},
		{"an order that has shipped", call{"Hold", 5, "a", 2}},
	} {
		s := inUse(t)
		if got := doOn(s, x.call); got != api.Done {
			t.Errorf("%s: %#v: %d, want %d", x.name, x.call, got, api.Done)
		}
		goods := goodsInUse()
		for i := range goods {
			if goods[i].Name == x.call.name {
				goods[i].Free -= x.n
			}
		}
		holds := append(holdsInUse(), held(x.order, x.call.name, x.n))
		slices.SortFunc(holds, func(a, b api.Hold) int { return int(int64(a.Order) - int64(b.Order)) })
		wantState(t, x.name, s, goods, holds, goneInUse())
	}
}

// A kind can be held up in one go, by many orders, and once more after they have let go.
func TestHoldAll(t *testing.T) {
	s := begin(t, []api.Good{good("a", api.MaxCount), good("b", 100)}).s
	wantVerdicts(t, s, []verdict{hold(1, "a", api.MaxCount, api.Done), hold(2, "a", 1, api.Refused)})
	wantState(t, "in one go", s, []api.Good{good("a", 0), good("b", 100)}, []api.Hold{held(1, "a", api.MaxCount)}, nil)
	var holds []api.Hold
	for i := range uint32(100) {
		wantVerdicts(t, s, []verdict{hold(1000-i, "b", 1, api.Done)})
		holds = slices.Insert(holds, 0, held(1000-i, "b", 1))
	}
	wantVerdicts(t, s, []verdict{hold(2, "b", 1, api.Refused), free(1, api.Done)})
	wantState(t, "by many orders", s, []api.Good{good("a", api.MaxCount), good("b", 0)}, holds, nil)
	for i := range uint32(100) {
		wantVerdicts(t, s, []verdict{free(901+i, api.Done)})
	}
	wantVerdicts(t, s, []verdict{hold(2, "b", 100, api.Done), ship(2, api.Done), hold(2, "a", api.MaxCount, api.Done), ship(2, api.Done), hold(2, "a", 1, api.Refused), hold(2, "b", 1, api.Refused)})
	wantState(t, "in the end", s, []api.Good{good("a", 0), good("b", 0)}, nil, map[string]int{"a": api.MaxCount, "b": 100})
}

func TestFree(t *testing.T) {
	s := inUse(t)
	wantVerdicts(t, s, []verdict{free(7, api.Done), free(7, api.Refused), ship(7, api.Refused)})
	goods := goodsInUse()
	goods[0].Free = 4
	wantState(t, "freed", s, goods, []api.Hold{held(3, "ab", 3), held(greatest, "full", 1)}, goneInUse())

	wantVerdicts(t, s, []verdict{free(greatest, api.Done), free(greatest, api.Refused), free(3, api.Done), free(3, api.Refused)})
	wantState(t, "all freed", s, []api.Good{good("a", 4), good("ab", 3), good("b", 1), good("full", api.MaxCount), good("none", 0)}, nil, goneInUse())

	// An order that has let go may hold again, of another kind too.
	wantVerdicts(t, s, []verdict{hold(7, "a", 4, api.Done), free(7, api.Done), hold(7, "ab", 1, api.Done), hold(3, "ab", 2, api.Done), free(7, api.Done)})
	wantState(t, "held again", s, []api.Good{good("a", 4), good("ab", 1), good("b", 1), good("full", api.MaxCount), good("none", 0)}, []api.Hold{held(3, "ab", 2)}, goneInUse())
}

func TestShip(t *testing.T) {
	s := inUse(t)
	wantVerdicts(t, s, []verdict{ship(7, api.Done), ship(7, api.Refused), free(7, api.Refused)})
	wantState(t, "shipped", s, goodsInUse(), []api.Hold{held(3, "ab", 3), held(greatest, "full", 1)}, map[string]int{"a": 3})

	wantVerdicts(t, s, []verdict{ship(greatest, api.Done), ship(greatest, api.Refused), ship(3, api.Done), free(3, api.Refused)})
	wantState(t, "all shipped", s, goodsInUse(), nil, map[string]int{"a": 3, "ab": 3, "full": 1})

	// An order that has gone may hold again; what went before is not in that.
	wantVerdicts(t, s, []verdict{hold(7, "a", 2, api.Done), free(7, api.Done), hold(7, "b", 1, api.Done), ship(7, api.Done), ship(7, api.Refused)})
	wantState(t, "shipped again", s, []api.Good{good("a", 2), good("ab", 0), good("b", 0), good("full", api.MaxCount-1), good("none", 0)}, nil, map[string]int{"a": 3, "ab": 3, "b": 1, "full": 1})
}

func TestGone(t *testing.T) {
	s := begin(t, []api.Good{good("a", 10), good("ab", 10), good("b", 1)}).s
	want := func(about string, a, ab, b int) {
		t.Helper()
		for _, x := range []struct {
			name string
			want int
		}{{"a", a}, {"ab", ab}, {"b", b}, {"", 0}, {"c", 0}, {"abc", 0}, {"A", 0}, {"a\x00", 0}, {long(1 << 16), 0}} {
			if got := s.Gone(x.name); got != x.want {
				t.Errorf("%s: Gone of %.9q: %d, want %d", about, x.name, got, x.want)
			}
		}
	}
	want("at first", 0, 0, 0)
	wantVerdicts(t, s, []verdict{hold(1, "a", 3, api.Done)})
	want("held", 0, 0, 0)
	wantVerdicts(t, s, []verdict{ship(1, api.Done)})
	want("in part", 3, 0, 0)
	wantVerdicts(t, s, []verdict{hold(1, "a", 2, api.Done), hold(2, "a", 4, api.Done), hold(3, "ab", 10, api.Done), ship(2, api.Done)})
	want("in two shipments", 7, 0, 0)
	wantVerdicts(t, s, []verdict{free(1, api.Done), ship(1, api.Refused)})
	want("freed", 7, 0, 0)
	wantVerdicts(t, s, []verdict{ship(3, api.Done), hold(3, "a", 3, api.Done), ship(3, api.Done)})
	want("gone", 10, 10, 0)
	wantVerdicts(t, s, []verdict{hold(4, "a", 1, api.Refused), ship(4, api.Refused), hold(4, "c", 1, api.Refused), hold(4, "", 1, api.Refused), ship(4, api.Refused)})
	want("refused", 10, 10, 0)
	wantState(t, "gone", s, []api.Good{good("a", 0), good("ab", 0), good("b", 1)}, nil, map[string]int{"a": 10, "ab": 10})
}

func TestHoldsAreSortedByOrder(t *testing.T) {
	orders := []uint32{1, 2, 9, 10, 255, 256, 1<<16 - 1, 1 << 16, 1<<31 - 1, 1 << 31, 1<<31 + 1, greatest - 1, greatest}
	// Neither the names nor the numbers rise with the orders.
	names := []string{"b", "a", "c"}
	var want []api.Hold
	for i, order := range orders {
		want = append(want, held(order, names[i%3], 20-i))
	}
	r := source()
	for range 300 {
		b := begin(t, []api.Good{good("a", 100), good("b", 100), good("c", 100)})
		for _, i := range r.Perm(len(want)) {
			b.do(t, call{"Hold", want[i].Order, want[i].Name, want[i].N})
		}
		if got := b.s.Holds(); !slices.Equal(got, want) {
			t.Errorf("Holds: %#v, want %#v", got, want)
		}
	}
}
