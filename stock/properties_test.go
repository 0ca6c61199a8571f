package stock_test

import (
	"slices"
	"testing"

	"drayage/api"
	"drayage/stock"
)

// wantConserved expects that what is free, held and gone of each kind adds up to what was there at the beginning, by the stock's own answers.
func wantConserved(t *testing.T, s *stock.Stock, start []api.Good) {
	t.Helper()
	goods, holds := s.Goods(), s.Holds()
	if len(goods) != len(start) {
		t.Errorf("%d kinds, %d at the beginning", len(goods), len(start))
	}
	for _, g := range start {
		at := slices.IndexFunc(goods, func(x api.Good) bool { return x.Name == g.Name })
		if at < 0 {
			t.Errorf("%q is no kind any more: %#v", g.Name, goods)
			continue
		}
		free, gone := goods[at].Free, s.Gone(g.Name)
		if free < 0 || gone < 0 || free+sum(holds, g.Name)+gone != g.Free {
			t.Errorf("%q: %d free and %d gone with %#v held do not add up to %d", g.Name, free, gone, holds, g.Free)
		}
	}
	for i, h := range holds {
		if h.Order == 0 || h.N < 1 || i > 0 && holds[i-1].Order >= h.Order {
			t.Errorf("Holds: %#v", holds)
		}
	}
}

// snapshot is all that a stock tells.
type snapshot struct {
	goods []api.Good
	holds []api.Hold
	gone  []int
}

func snapshotOf(s *stock.Stock) snapshot {
	x := snapshot{goods: s.Goods(), holds: s.Holds()}
	for _, g := range x.goods {
		x.gone = append(x.gone, s.Gone(g.Name))
	}
	return x
}

func (x snapshot) equals(y snapshot) bool {
	return slices.Equal(x.goods, y.goods) && slices.Equal(x.holds, y.holds) && slices.Equal(x.gone, y.gone)
}

// drawCall returns a call with arguments at and around the bounds; draw returns a number from 0 up to less than its argument.
func drawCall(b both, draw func(n int) int) call {
	orders := []uint32{0, 1, 2, 3, 4, 5, 1 << 31, greatest}
	names := []string{"", "a kind that there is not"}
	for _, g := range b.m.start {
		names = append(names, g.Name, g.Name, g.Name)
	}
	c := call{order: orders[draw(len(orders))]}
	c.what = []string{"Hold", "Hold", "Free", "Ship"}[draw(4)]
	if c.what == "Hold" {
		c.name = names[draw(len(names))]
		free := b.m.free(c.name)
		c.n = []int{1, 1, 2, free - 1, free, free + 1, 0, -1}[draw(8)]
	}
	return c
}

// play makes n drawn calls, and expects the properties and the model's answers after each; counts is how often each call had each verdict.
func play(t *testing.T, b both, n int, draw func(n int) int, counts map[verdict]int) {
	t.Helper()
	for range n {
		c := drawCall(b, draw)
		before := snapshotOf(b.s)
		got := b.do(t, c)
		counts[verdict{call{what: c.what}, got}]++
		if got == api.Refused && !before.equals(snapshotOf(b.s)) {
			t.Errorf("%#v was refused, and made %#v of %#v", c, snapshotOf(b.s), before)
		}
		wantConserved(t, b.s, b.m.start)
		b.wantSame(t, "drawn")
		if t.Failed() {
			t.FailNow()
		}
	}
}

func TestAnyCalls(t *testing.T) {
	r := source()
	counts := map[verdict]int{}
	for range 40 {
		for _, x := range ordinary() {
			play(t, begin(t, x.l), 40, r.Intn, counts)
		}
	}
	for _, what := range []string{"Hold", "Free", "Ship"} {
		for _, v := range []int{api.Done, api.Refused} {
			if n := counts[verdict{call{what: what}, v}]; n < 1000 {
				t.Errorf("%s had the verdict %d %d times: too few to tell", what, v, n)
			}
		}
	}
}

// Holding and freeing again leaves no trace, at whatever point.
func TestHoldAndFreeLeaveNoTrace(t *testing.T) {
	r := source()
	done := 0
	for range 2000 {
		b := begin(t, some())
		play(t, b, r.Intn(30), r.Intn, map[verdict]int{})
		before := snapshotOf(b.s)
		c := drawCall(b, r.Intn)
		c.what, c.order = "Hold", 99
		if doOn(b.s, c) == api.Done {
			done++
			if b.s.Free(99) != api.Done || b.s.Free(99) != api.Refused || b.s.Ship(99) != api.Refused {
				t.Errorf("%#v is not freed once", c)
			}
		}
		if !before.equals(snapshotOf(b.s)) {
			t.Errorf("%#v and its end made %#v of %#v", c, snapshotOf(b.s), before)
		}
		// What follows gets the model's answers, which know nothing of it.
		play(t, b, 10, r.Intn, map[verdict]int{})
	}
	if done < 100 {
		t.Errorf("%d holds were done: too few to tell", done)
	}
}

// All orders let go in any order: everything that is not gone is as it was.
func TestAllFreed(t *testing.T) {
	r := source()
	for range 200 {
		b := begin(t, many(20))
		play(t, b, 60, r.Intn, map[verdict]int{})
		holds := b.s.Holds()
		for _, i := range r.Perm(len(holds)) {
			b.do(t, call{what: "Free", order: holds[i].Order})
		}
		b.wantSame(t, "all freed")
		for _, g := range b.m.start {
			at := slices.IndexFunc(b.s.Goods(), func(x api.Good) bool { return x.Name == g.Name })
			if got := b.s.Goods()[at].Free + b.s.Gone(g.Name); got != g.Free {
				t.Errorf("%q: %d, %d at the beginning", g.Name, got, g.Free)
			}
		}
	}
}

// All sequences of four calls by two orders on a small stock.
func TestAllShortSequences(t *testing.T) {
	var calls []call
	for order := uint32(1); order <= 2; order++ {
		for n := 1; n <= 2; n++ {
			calls = append(calls, call{"Hold", order, "a", n}, call{"Hold", order, "b", n})
		}
		calls = append(calls, call{what: "Free", order: order}, call{what: "Ship", order: order})
	}
	start := []api.Good{good("b", 1), good("a", 3)}
	last := len(calls) * len(calls) * len(calls) * len(calls)
	for i := range last {
		b := begin(t, start)
		for at := i; at > 0; at /= len(calls) {
			b.do(t, calls[at%len(calls)])
		}
		b.wantSame(t, "short")
		wantConserved(t, b.s, start)
		if t.Failed() {
			t.Fatalf("in sequence %d", i)
		}
	}
}

// An order has many lives; each unit goes once only.
func TestEachUnitGoesOnce(t *testing.T) {
	s := begin(t, []api.Good{good("a", 1000)}).s
	shipped := 0
	for range 2000 {
		if s.Hold(1, "a", 1) == api.Done && s.Hold(1, "a", 1) == api.Refused && s.Ship(1) == api.Done {
			shipped++
		}
		if s.Ship(1) != api.Refused || s.Free(1) != api.Refused {
			t.Fatal("shipped, and shipped or freed again")
		}
	}
	if shipped != 1000 || s.Gone("a") != 1000 {
		t.Errorf("%d shipped, %d gone", shipped, s.Gone("a"))
	}
	wantConserved(t, s, []api.Good{good("a", 1000)})
}

// So many orders hold at once as there are units.
func TestManyOrders(t *testing.T) {
	b := begin(t, []api.Good{good("a", 2000), good("b", 1000)})
	r := source()
	for i, order := range r.Perm(3000) {
		b.do(t, call{"Hold", uint32(order + 1), []string{"a", "b", "a"}[i%3], 1})
	}
	b.do(t, call{"Hold", 5000, "a", 1})
	b.wantSame(t, "all held")
	for i, order := range r.Perm(3000) {
		b.do(t, call{what: []string{"Free", "Ship"}[i%2], order: uint32(order + 1)})
	}
	b.wantSame(t, "all ended")
	wantConserved(t, b.s, b.m.start)
}

func FuzzCalls(f *testing.F) {
	f.Add(uint8(4), []byte("Hold Hold Free Ship, and what comes behind them"))
	f.Add(uint8(19), []byte{1, 0, 2, 0, 2, 0, 2, 4, 1, 2, 2, 3, 7, 1, 5, 5})
	f.Fuzz(func(t *testing.T, beginning uint8, b []byte) {
		all := ordinary()
		at := 0
		draw := func(n int) int {
			if at == len(b) {
				return 0
			}
			at++
			return int(b[at-1]) % n
		}
		play(t, begin(t, all[int(beginning)%len(all)].l), min(len(b)/3+1, 200), draw, map[verdict]int{})
	})
}
