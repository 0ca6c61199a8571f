package stock_test

import (
	"runtime"
	"slices"
	"strings"
	"testing"

	"drayage/api"
	"drayage/stock"
)

// spoil writes over a list, and over the room behind it.
func spoil[T any](l []T, with T) {
	l = l[:cap(l)]
	for i := range l {
		l[i] = with
	}
}

func TestNewLeavesItsArgument(t *testing.T) {
	for _, x := range append(ordinary(), broken()...) {
		l := append(slices.Clone(x.l), good("behind", 7))
		before := slices.Clone(l)
		stock.New(l[:len(x.l)])
		if !slices.Equal(l, before) {
			t.Errorf("%s: New made %#v of %#v", x.name, l, before)
		}
	}
}

func TestNewSharesNoMemory(t *testing.T) {
	for _, x := range ordinary() {
		l := slices.Clone(x.l)
		one, two := begin(t, l), begin(t, l)
		for i, g := range x.l {
			one.do(t, call{"Hold", uint32(i + 1), g.Name, 1})
		}
		spoil(l, good("spoilt", 7))
		one.wantSame(t, x.name)
		two.wantSame(t, x.name)
		for i, g := range x.l {
			two.do(t, call{"Hold", uint32(i + 1), g.Name, 1})
			two.do(t, call{what: "Ship", order: uint32(i + 1)})
		}
		one.wantSame(t, x.name)
		two.wantSame(t, x.name)
	}
}

// Each answer is memory of its own: neither another answer nor the stock changes with it, nor it with them.
func TestAnswersShareNoMemory(t *testing.T) {
	for _, x := range ordinary() {
		b := begin(t, x.l)
		for i, g := range x.l {
			b.do(t, call{"Hold", uint32(i*31%97 + 1), g.Name, g.Free/2 + 1})
		}
		goods, holds := b.s.Goods(), b.s.Holds()
		otherGoods, otherHolds := b.s.Goods(), b.s.Holds()
		spoil(goods, good("spoilt", 7))
		spoil(holds, held(7, "spoilt", 7))
		if !slices.Equal(otherGoods, b.m.goods()) || !slices.Equal(otherHolds, b.m.sorted()) {
			t.Errorf("%s: two answers share memory: %#v, %#v", x.name, otherGoods, otherHolds)
		}
		b.wantSame(t, x.name)

		wasGoods, wasHolds := b.m.goods(), b.m.sorted()
		for i := range x.l {
			b.do(t, call{what: []string{"Free", "Ship"}[i%2], order: uint32(i*31%97 + 1)})
		}
		b.wantSame(t, x.name)
		if !slices.Equal(otherGoods, wasGoods) || !slices.Equal(otherHolds, wasHolds) {
			t.Errorf("%s: an answer shares memory with the stock: %#v, %#v", x.name, otherGoods, otherHolds)
		}
	}
}

// What is put behind an answer is in no other one.
func TestAnswersAreExtendedApart(t *testing.T) {
	b := begin(t, some())
	b.do(t, call{"Hold", 1, "a", 1})
	goods, otherGoods := b.s.Goods(), b.s.Goods()
	holds, otherHolds := b.s.Holds(), b.s.Holds()
	goods, otherGoods = append(goods, good("x", 1)), append(otherGoods, good("y", 2))
	holds, otherHolds = append(holds, held(2, "x", 1)), append(otherHolds, held(3, "y", 2))
	if goods[5] != good("x", 1) || otherGoods[5] != good("y", 2) || holds[1] != held(2, "x", 1) || otherHolds[1] != held(3, "y", 2) {
		t.Errorf("%#v, %#v, %#v, %#v", goods, otherGoods, holds, otherHolds)
	}
	b.wantSame(t, "extended")
}

// Stocks of the same kinds, with the same orders, know nothing of one another.
func TestStocksAreIndependent(t *testing.T) {
	l := some()
	one, two := begin(t, l), begin(t, l)
	for _, c := range []call{{"Hold", 7, "a", 3}, {"Hold", 8, "b", 1}, {what: "Ship", order: 7}, {what: "Free", order: 8}, {"Hold", 7, "full", api.MaxCount}} {
		one.do(t, c)
		one.wantSame(t, "used")
		two.wantSame(t, "not used")
	}
	for _, c := range []call{{what: "Free", order: 7}, {what: "Ship", order: 7}, {"Hold", 7, "a", 5}, {what: "Ship", order: 7}, {"Hold", 8, "full", 2}} {
		two.do(t, c)
		one.wantSame(t, "used before")
		two.wantSame(t, "used too")
	}
	third := begin(t, l[:2])
	third.do(t, call{"Hold", 7, "full", 1})
	third.do(t, call{"Hold", 7, "b", 1})
	for _, b := range []both{one, two, third} {
		b.wantSame(t, "in the end")
	}
}

// inUseNow returns how many bytes are in use once the rest was given back.
func inUseNow() uint64 {
	runtime.GC()
	runtime.GC()
	var m runtime.MemStats
	runtime.ReadMemStats(&m)
	return m.HeapAlloc
}

// cut returns a name that is a piece of a text of 1 MiB: who keeps the name keeps all of the text.
func cut(i int) string {
	return strings.Repeat(string(rune('A'+i))+long(31), 1<<15)[:api.MaxKey]
}

func ofCutNames() *stock.Stock {
	var l []api.Good
	for i := range api.MaxGoods {
		l = append(l, good(cut(i), 2))
	}
	s, _ := stock.New(l)
	return s
}

// The texts that come in are not retained: neither those of New, nor those under which is held and asked.
func TestTextsAreNotRetained(t *testing.T) {
	before := inUseNow()
	s := ofCutNames()
	want := func(about string) {
		t.Helper()
		if after := inUseNow(); after > before+1<<22 {
			t.Errorf("%s: %d bytes are in use, %d before", about, after, before)
		}
	}
	want("New")
	for i := range api.MaxGoods {
		wantVerdicts(t, s, []verdict{hold(uint32(i+1), cut(i), 1, api.Done), hold(uint32(i+1), cut(i), 1, api.Refused)})
	}
	want("Hold")
	for i := range uint32(api.MaxGoods / 2) {
		wantVerdicts(t, s, []verdict{free(i+1, api.Done), ship(i+26, api.Done)})
	}
	for i := range api.MaxGoods {
		if got := s.Gone(cut(i)); got != i/25 {
			t.Errorf("Gone of kind %d: %d, want %d", i, got, i/25)
		}
	}
	want("Free, Ship and Gone")
	runtime.KeepAlive(s)
}
