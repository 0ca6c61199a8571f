package stock_test

import (
	"math"
	"math/rand"
	"slices"
	"strings"
	"testing"

	"drayage/api"
	"drayage/stock"
)

const greatest = math.MaxUint32 // of orders

// source gives the same numbers in every run, so that a failure can be repeated.
func source() *rand.Rand { return rand.New(rand.NewSource(9)) }

func long(n int) string { return strings.Repeat("x", n) }

func good(name string, free int) api.Good { return api.Good{Name: name, Free: free} }

func held(order uint32, name string, n int) api.Hold {
	return api.Hold{Order: order, Name: name, N: n}
}

// many returns n kinds with different names and numbers, in no order.
func many(n int) []api.Good {
	var l []api.Good
	for i := range n {
		l = append(l, good(string([]byte{byte(i*97 + 11), byte(i % 3)}), i*i))
	}
	return l
}

type sample struct {
	name string
	l    []api.Good
}

// ordinary returns kinds of which a stock can be made.
func ordinary() []sample {
	return []sample{
		{"nil", nil},
		{"no goods", []api.Good{}},
		{"one kind", []api.Good{good("a", 5)}},
		{"one kind of which there is nothing", []api.Good{good("a", 0)}},
		{"the chapter's", []api.Good{good("a", 5), good("b", 1)}},
		{"a name of 1 byte", []api.Good{good("\x00", 5)}},
		{"a name of MaxKey - 1 bytes", []api.Good{good(long(api.MaxKey-1), 5)}},
		{"a name of MaxKey bytes", []api.Good{good(long(api.MaxKey), 5)}},
		{"a name of MaxKey bytes, in two bytes each", []api.Good{good(strings.Repeat("é", api.MaxKey/2), 5)}},
		{"Free of 1", []api.Good{good("a", 1)}},
		{"Free of MaxCount - 1", []api.Good{good("a", api.MaxCount-1)}},
		{"Free of MaxCount", []api.Good{good("a", api.MaxCount)}},
		{"Free of MaxCount of each kind", []api.Good{good("c", api.MaxCount), good("a", api.MaxCount), good("b", api.MaxCount)}},
		{"names that differ in their case", []api.Good{good("a", 5), good("A", 6)}},
		{"names that differ at their end", []api.Good{good(long(31)+"b", 5), good(long(31)+"a", 6)}},
		{"names that differ at their beginning", []api.Good{good("b"+long(31), 5), good("a"+long(31), 6)}},
		{"names of which one begins another", []api.Good{good("ab", 1), good("a", 2), good("abc", 3), good("b", 4), good("a\x00", 5)}},
		{"names that read alike", []api.Good{good("é", 1), good("e\u0301", 2), good("a", 3), good("a ", 4), good(" a", 5)}},
		{"names of any bytes", []api.Good{good("\xff", 1), good("\x7f", 2), good("\x80", 3), good("\x00", 4), good("\x00\x00", 5), good("\xfe\xff", 6), good("\xff\x00", 7), good("\xed\xa0\x80", 8)}},
		{"some", some()},
		{"MaxGoods - 1 kinds", many(api.MaxGoods - 1)},
		{"MaxGoods kinds", many(api.MaxGoods)},
	}
}

// some returns kinds of which there is nothing, one unit, a few, and as much as there can be, in no order.
func some() []api.Good {
	return []api.Good{good("b", 1), good("a", 5), good("full", api.MaxCount), good("ab", 3), good("none", 0)}
}

// broken returns kinds of which no stock can be made.
func broken() []sample {
	all := []sample{
		{"MaxGoods + 1 kinds", many(api.MaxGoods + 1)},
		{"200 kinds", many(200)},
		{"256 + 1 kinds of one name", slices.Repeat([]api.Good{good("a", 1)}, 257)},
		{"twice the same", []api.Good{good("a", 5), good("a", 5)}},
		{"twice the same name", []api.Good{good("a", 5), good("a", 6)}},
		{"twice the same name, of nothing", []api.Good{good("a", 0), good("a", 0)}},
		{"twice the same name, apart", []api.Good{good("a", 5), good("b", 1), good("c", 1), good("a", 5)}},
		{"twice the same name, at the end", []api.Good{good("b", 5), good("c", 1), good("a", 1), good("a", 2)}},
		{"twice the longest name", []api.Good{good(long(api.MaxKey), 5), good("b", 1), good(long(api.MaxKey), 5)}},
		{"twice the same name of any bytes", []api.Good{good("\xff\x00", 5), good("\xff\x00", 5)}},
		{"thrice the same name", []api.Good{good("a", 1), good("a", 2), good("a", 3)}},
		{"MaxGoods kinds, the first one twice", append(many(api.MaxGoods-1), many(1)...)},
	}
	faults := []sample{{"the zero kind", []api.Good{{}}}}
	for _, name := range []string{"", long(api.MaxKey + 1), long(255), long(256 + 1), long(1 << 16), strings.Repeat("é", api.MaxKey/2) + "e", strings.Repeat("€", 11)} {
		faults = append(faults, sample{"a name of too few or too many bytes", []api.Good{good(name, 5)}})
	}
	for _, n := range []int{-1, -api.MaxCount, math.MinInt32, math.MinInt, api.MaxCount + 1, math.MaxInt32, 1 << 32, 1<<32 + 1, math.MaxInt} {
		faults = append(faults, sample{"Free out of bounds", []api.Good{good("a", n)}})
	}
	for _, x := range faults {
		b, c := good("b", 1), good("c", 1)
		all = append(all, x,
			sample{x.name + ", ahead of others", append(slices.Clone(x.l), b, c)},
			sample{x.name + ", between others", []api.Good{b, x.l[0], c}},
			sample{x.name + ", behind others", []api.Good{b, c, x.l[0]}},
			sample{x.name + ", twice", []api.Good{x.l[0], x.l[0]}})
	}
	return all
}

// model is a stock by the chapter's words: what was there at the beginning, what is held, and what is gone. What is free is what is left.
type model struct {
	start []api.Good
	holds []api.Hold
	gone  []api.Hold
}

// sum returns how many units of a kind are in l.
func sum(l []api.Hold, name string) int {
	n := 0
	for _, h := range l {
		if h.Name == name {
			n += h.N
		}
	}
	return n
}

func (m *model) free(name string) int {
	for _, g := range m.start {
		if g.Name == name {
			return g.Free - sum(m.holds, name) - sum(m.gone, name)
		}
	}
	return 0
}

// place returns where the hold of an order is, or -1.
func (m *model) place(order uint32) int {
	return slices.IndexFunc(m.holds, func(h api.Hold) bool { return h.Order == order })
}

// call is a call of Hold, Free or Ship.
type call struct {
	what  string
	order uint32
	name  string
	n     int
}

func (m *model) do(c call) int {
	at := m.place(c.order)
	if c.what == "Hold" {
		if c.order == 0 || c.n < 1 || at >= 0 || m.free(c.name) < c.n {
			return api.Refused
		}
		m.holds = append(m.holds, held(c.order, c.name, c.n))
		return api.Done
	}
	if at < 0 {
		return api.Refused
	}
	if c.what == "Ship" {
		m.gone = append(m.gone, m.holds[at])
	}
	m.holds = slices.Delete(m.holds, at, at+1)
	return api.Done
}

// goods returns the kinds, each one put where the names ahead of it are less.
func (m *model) goods() []api.Good {
	var l []api.Good
	for _, g := range m.start {
		at := 0
		for at < len(l) && l[at].Name < g.Name {
			at++
		}
		l = slices.Insert(l, at, good(g.Name, m.free(g.Name)))
	}
	return l
}

func (m *model) sorted() []api.Hold {
	var l []api.Hold
	for _, h := range m.holds {
		at := 0
		for at < len(l) && l[at].Order < h.Order {
			at++
		}
		l = slices.Insert(l, at, h)
	}
	return l
}

// both is a stock beside its model.
type both struct {
	s *stock.Stock
	m *model
}

func begin(t *testing.T, l []api.Good) both {
	t.Helper()
	s, err := stock.New(l)
	if err != api.OK || s == nil {
		t.Fatalf("New of %#v: %#v, %d", l, s, err)
	}
	return both{s, &model{start: slices.Clone(l)}}
}

// do calls the stock and its model, which have to give the same verdict, and returns that.
func (b both) do(t *testing.T, c call) int {
	t.Helper()
	got, want := doOn(b.s, c), b.m.do(c)
	if got != want {
		t.Errorf("%#v: %d, want %d, with %#v held, %#v gone", c, got, want, b.m.holds, b.m.gone)
	}
	return got
}

func doOn(s *stock.Stock, c call) int {
	switch c.what {
	case "Hold":
		return s.Hold(c.order, c.name, c.n)
	case "Free":
		return s.Free(c.order)
	}
	return s.Ship(c.order)
}

// wantSame expects that the stock tells what its model does.
func (b both) wantSame(t *testing.T, about string) {
	t.Helper()
	if got, want := b.s.Goods(), b.m.goods(); !slices.Equal(got, want) {
		t.Errorf("%s: Goods: %#v, want %#v", about, got, want)
	}
	if got, want := b.s.Holds(), b.m.sorted(); !slices.Equal(got, want) {
		t.Errorf("%s: Holds: %#v, want %#v", about, got, want)
	}
	for _, g := range b.m.start {
		if got, want := b.s.Gone(g.Name), sum(b.m.gone, g.Name); got != want {
			t.Errorf("%s: Gone of %q: %d, want %d", about, g.Name, got, want)
		}
	}
	for _, name := range []string{"", "a kind that there is not", long(api.MaxKey + 1)} {
		if got := b.s.Gone(name); got != 0 {
			t.Errorf("%s: Gone of %q: %d", about, name, got)
		}
	}
}

// wantState expects exactly these free and held units, and, by name, these that are gone.
func wantState(t *testing.T, about string, s *stock.Stock, goods []api.Good, holds []api.Hold, gone map[string]int) {
	t.Helper()
	if got := s.Goods(); !slices.Equal(got, goods) {
		t.Errorf("%s: Goods: %#v, want %#v", about, got, goods)
	}
	if got := s.Holds(); !slices.Equal(got, holds) {
		t.Errorf("%s: Holds: %#v, want %#v", about, got, holds)
	}
	for _, g := range goods {
		if got := s.Gone(g.Name); got != gone[g.Name] {
			t.Errorf("%s: Gone of %q: %d, want %d", about, g.Name, got, gone[g.Name])
		}
	}
}

// wantVerdicts expects these verdicts of calls, one after the other.
func wantVerdicts(t *testing.T, s *stock.Stock, l []verdict) {
	t.Helper()
	for i, x := range l {
		if got := doOn(s, x.call); got != x.want {
			t.Errorf("call %d, %#v: %d, want %d", i, x.call, got, x.want)
		}
	}
}

type verdict struct {
	call
	want int
}

func hold(order uint32, name string, n, want int) verdict {
	return verdict{call{"Hold", order, name, n}, want}
}

func free(order uint32, want int) verdict { return verdict{call{what: "Free", order: order}, want} }

func ship(order uint32, want int) verdict { return verdict{call{what: "Ship", order: order}, want} }
