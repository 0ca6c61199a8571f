package stock_test

import (
	"slices"
	"testing"

	"drayage/api"
	"drayage/stock"
)

// The chapter's example.
func TestExample(t *testing.T) {
	s := begin(t, []api.Good{good("a", 5), good("b", 1)}).s
	wantVerdicts(t, s, []verdict{hold(7, "a", 3, api.Done), hold(8, "a", 3, api.Refused), hold(7, "b", 1, api.Refused)})
	wantState(t, "held", s, []api.Good{good("a", 2), good("b", 1)}, []api.Hold{held(7, "a", 3)}, nil)
	wantVerdicts(t, s, []verdict{free(7, api.Done)})
	wantState(t, "freed", s, []api.Good{good("a", 5), good("b", 1)}, nil, nil)
	wantVerdicts(t, s, []verdict{hold(8, "a", 5, api.Done), ship(8, api.Done)})
	wantState(t, "shipped", s, []api.Good{good("a", 0), good("b", 1)}, nil, map[string]int{"a": 5})
}

func TestNew(t *testing.T) {
	for _, x := range ordinary() {
		b := begin(t, x.l)
		b.wantSame(t, x.name)
		if got := b.s.Goods(); len(got) != len(x.l) {
			t.Errorf("%s: %d kinds, want %d", x.name, len(got), len(x.l))
		}
	}
}

func TestNewErrors(t *testing.T) {
	for _, x := range broken() {
		if s, err := stock.New(x.l); s != nil || err != api.ErrArg {
			t.Errorf("%s: New of %d kinds: %#v, %d, want nil, %d", x.name, len(x.l), s, err, api.ErrArg)
		}
	}
}

// All that New could be handed of two kinds, by the chapter's words.
func TestNewOfTwo(t *testing.T) {
	names := []string{"", "a", "b", "ab", long(api.MaxKey), long(api.MaxKey + 1)}
	counts := []int{-1, 0, 1, api.MaxCount, api.MaxCount + 1}
	isGood := func(g api.Good) bool {
		return g.Name != "" && g.Name != names[5] && g.Free != counts[0] && g.Free != counts[4]
	}
	var all []api.Good
	for _, name := range names {
		for _, n := range counts {
			all = append(all, good(name, n))
		}
	}
	for _, a := range all {
		for _, b := range all {
			l := []api.Good{a, b}
			if isGood(a) && isGood(b) && a.Name != b.Name {
				begin(t, l).wantSame(t, "two kinds")
			} else if s, err := stock.New(l); s != nil || err != api.ErrArg {
				t.Errorf("New of %#v: %#v, %d", l, s, err)
			}
		}
	}
}

// A stock that was not made leaves nothing behind.
func TestNewAfterErrors(t *testing.T) {
	for _, x := range broken() {
		stock.New(x.l)
		begin(t, some()).wantSame(t, x.name)
	}
}

func TestGoodsAreSortedByName(t *testing.T) {
	for _, x := range []sample{
		{"one begins another", []api.Good{good("a", 1), good("a\x00", 2), good("aa", 3), good("ab", 4), good("abc", 5), good("b", 6)}},
		{"any bytes", []api.Good{good("\x00", 1), good("\x00\x00", 2), good("\x7f", 3), good("\x80", 4), good("\xc3\xa9", 5), good("\xff", 6), good("\xff\x00", 7)}},
		{"letters by their bytes", []api.Good{good("10", 1), good("9", 2), good("A", 3), good("Z", 4), good("a", 5), good("z", 6), good("é", 7)}},
		{"the number says nothing", []api.Good{good("a", 9), good("b", 7), good("c", 8), good("d", 0)}},
		{"the longest", []api.Good{good(long(30), 1), good(long(31), 2), good(long(31)+"w", 3), good(long(32), 4), good("y", 5)}},
	} {
		wantSortedFromAnyOrder(t, x)
	}
}

func wantSortedFromAnyOrder(t *testing.T, x sample) {
	t.Helper()
	r := source()
	for range 200 {
		l := slices.Clone(x.l)
		r.Shuffle(len(l), func(i, j int) { l[i], l[j] = l[j], l[i] })
		if got := begin(t, l).s.Goods(); !slices.Equal(got, x.l) {
			t.Errorf("%s: New of %#v: Goods: %#v, want %#v", x.name, l, got, x.l)
		}
	}
	l := slices.Clone(x.l)
	slices.Reverse(l)
	if got := begin(t, l).s.Goods(); !slices.Equal(got, x.l) {
		t.Errorf("%s: New of %#v: Goods: %#v, want %#v", x.name, l, got, x.l)
	}
}

// The same calls get the same answers, whatever way the maps are gone through.
func TestAnswersAreTheSameEachTime(t *testing.T) {
	b := begin(t, many(api.MaxGoods))
	for i := range uint32(40) {
		b.do(t, call{"Hold", i*7919%101 + 1, b.m.start[i].Name, int(i * i)})
	}
	for range 200 {
		b.wantSame(t, "again")
	}
}

func TestEmptyStock(t *testing.T) {
	for _, l := range [][]api.Good{nil, {}, make([]api.Good, 0, 3), some()[:0]} {
		b := begin(t, l)
		for range 2 {
			wantVerdicts(t, b.s, []verdict{hold(1, "a", 1, api.Refused), hold(1, "", 1, api.Refused), hold(0, "", 0, api.Refused), free(1, api.Refused), ship(1, api.Refused), free(0, api.Refused), ship(0, api.Refused)})
			b.wantSame(t, "empty")
		}
		if len(b.s.Goods()) != 0 || len(b.s.Holds()) != 0 || b.s.Gone("a") != 0 || b.s.Gone("") != 0 {
			t.Errorf("%#v, %#v, %d, %d", b.s.Goods(), b.s.Holds(), b.s.Gone("a"), b.s.Gone(""))
		}
	}
}

func TestNil(t *testing.T) {
	var s *stock.Stock
	for range 2 {
		wantVerdicts(t, s, []verdict{hold(1, "a", 1, api.Refused), hold(0, "", 0, api.Refused), hold(greatest, long(1<<16), -1, api.Refused)})
		for _, order := range []uint32{0, 1, greatest} {
			wantVerdicts(t, s, []verdict{free(order, api.Refused), ship(order, api.Refused)})
		}
		if l := s.Goods(); len(l) != 0 {
			t.Errorf("Goods: %#v", l)
		}
		if l := s.Holds(); len(l) != 0 {
			t.Errorf("Holds: %#v", l)
		}
		for _, name := range []string{"", "a", long(1 << 16)} {
			if n := s.Gone(name); n != 0 {
				t.Errorf("Gone of %d bytes: %d", len(name), n)
			}
		}
	}
}

// A stock that New did not make for an error is nil, and answers as nil does.
func TestStockBesideAnError(t *testing.T) {
	s, _ := stock.New([]api.Good{good("a", 5), good("a", 5)})
	wantVerdicts(t, s, []verdict{hold(1, "a", 1, api.Refused), free(1, api.Refused), ship(1, api.Refused)})
	if len(s.Goods()) != 0 || len(s.Holds()) != 0 || s.Gone("a") != 0 {
		t.Errorf("%#v, %#v, %d", s.Goods(), s.Holds(), s.Gone("a"))
	}
}

func FuzzNew(f *testing.F) {
	f.Add([]byte("a\x05b\x01"), uint8(1), 5)
	f.Add([]byte("aaaa"), uint8(2), api.MaxCount)
	f.Add([]byte("abab"), uint8(32), 0)
	f.Fuzz(func(t *testing.T, names []byte, size uint8, n int) {
		var l []api.Good
		isRight := n >= 0 && n <= api.MaxCount
		for name := range slices.Chunk(names, max(int(size), 1)) {
			isTwice := slices.ContainsFunc(l, func(g api.Good) bool { return g.Name == string(name) })
			isRight = isRight && !isTwice && len(name) <= api.MaxKey
			l = append(l, good(string(name), n))
		}
		s, err := stock.New(l)
		switch isRight = isRight && len(l) <= api.MaxGoods || len(l) == 0; {
		case isRight:
			begin(t, l).wantSame(t, "fuzzed")
		case s != nil || err != api.ErrArg:
			t.Errorf("New of %#v: %#v, %d", l, s, err)
		}
	})
}
