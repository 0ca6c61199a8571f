package crew_test

import (
	"fmt"
	"math"
	"slices"
	"testing"

	"drayage/api"
	"drayage/crew"
)

// The chapter's example.
func TestExample(t *testing.T) {
	b := begin(t, stores{[]api.Good{{Name: "a", Free: 5}}, []api.Account{{Name: "ann", Money: 9}}, []int{3}})
	hold := in(1, forward(7, 0, api.WorkHold, 2, "a"))
	undo := in(1, back(7, 0, api.WorkHold, 2, "a"))
	for range 2 {
		b.want(t, "the step", hold, done(hold, api.Done, ""))
		if l := b.c.Goods(); len(l) != 1 || l[0] != (api.Good{Name: "a", Free: 3}) {
			t.Errorf("Goods: %v", l)
		}
	}
	b.want(t, "in epoch 0", in(0, hold), no(1, 1))
	b.want(t, "the undo", undo, done(undo, api.Done, ""))
	if l := b.c.Goods(); len(l) != 1 || l[0] != (api.Good{Name: "a", Free: 5}) {
		t.Errorf("Goods: %v", l)
	}
}

// The examples 5 and 7 of the whole, as far as they are about a crew.
func TestExamplesOfTheWhole(t *testing.T) {
	b := begin(t, some())
	hold, ship, undo := forward(7, 0, api.WorkHold, 2, "a"), forward(7, 1, api.WorkShip, 0, ""), back(7, 0, api.WorkHold, 2, "a")
	b.want(t, "a hold", hold, done(hold, api.Done, ""))
	if l := b.c.Goods(); l[0] != (api.Good{Name: "a", Free: 3}) {
		t.Errorf("Goods: %v", l)
	}
	b.want(t, "the same step again", hold, done(hold, api.Done, ""))
	b.want(t, "in an older epoch", in(1, hold), fenced(2, hold))
	// A ship of an order that holds nothing is refused, and what another one holds is undone.
	other := forward(8, 1, api.WorkShip, 0, "")
	b.want(t, "a ship", other, done(other, api.Refused, ""))
	b.want(t, "the undo of the hold", undo, done(undo, api.Done, ""))
	b.want(t, "a ship behind it", ship, done(ship, api.Refused, ""))
	if l := b.c.Goods(); l[0] != (api.Good{Name: "a", Free: 5}) {
		t.Errorf("Goods: %v", l)
	}
}

// goodsOf, accountsOf and roomOf return n of them, in no order of their names.
func goodsOf(n int) []api.Good {
	var l []api.Good
	for i := range n {
		l = append(l, api.Good{Name: fmt.Sprint("kind ", i*37%101), Free: i % 7})
	}
	return l
}

func accountsOf(n int) []api.Account {
	var l []api.Account
	for i := range n {
		l = append(l, api.Account{Name: fmt.Sprint("account ", i*37%101), Money: i % 7})
	}
	return l
}

func roomOf(n int) []int {
	var l []int
	for i := range n {
		l = append(l, i*97%61)
	}
	return l
}

func TestNew(t *testing.T) {
	for _, s := range []stores{
		{},
		some(),
		{goods: some().goods},
		{accounts: some().accounts},
		{room: some().room},
		{[]api.Good{{Name: "a", Free: api.MaxCount}}, []api.Account{{Name: "a", Money: api.MaxMoney}}, []int{api.MaxCount}},
		{[]api.Good{{Name: "a"}}, []api.Account{{Name: "a"}}, []int{0}},
		{[]api.Good{{Name: long(32), Free: 1}}, []api.Account{{Name: long(32), Money: 1}}, []int{1}},
		{[]api.Good{{Name: "z", Free: 1}, {Name: "a", Free: 2}}, []api.Account{{Name: "z", Money: 1}, {Name: "a", Money: 2}}, []int{9, 1}},
		{goodsOf(api.MaxGoods), accountsOf(api.MaxGoods), roomOf(api.MaxDays)},
	} {
		b := begin(t, s)
		b.wantSame(t, "new")
		if c := b.c; c.Epoch() != 0 || len(c.Effects()) != 0 || len(c.Notices()) != 0 {
			t.Errorf("New of %v: epoch %d, effects %v, notices %q", s, c.Epoch(), c.Effects(), c.Notices())
		}
	}
}

// An error of each part, of two parts at once, and of all three: the error is that of the first, and there is no crew.
func TestNewErrors(t *testing.T) {
	goods := [][]api.Good{
		some().goods,
		{{}}, {{Name: long(33)}}, {{Name: "a", Free: -1}}, {{Name: "a", Free: api.MaxCount + 1}}, {{Name: "a"}, {Name: "a"}}, goodsOf(api.MaxGoods + 1),
	}
	accounts := [][]api.Account{
		some().accounts,
		{{}}, {{Name: long(33)}}, {{Name: "a", Money: -1}}, {{Name: "a", Money: api.MaxMoney + 1}}, {{Name: "a", Money: 1, Held: 1}}, {{Name: "a"}, {Name: "a"}}, accountsOf(api.MaxGoods + 1),
	}
	rooms := [][]int{
		some().room,
		{-1}, {api.MaxCount + 1}, {1, 2, math.MinInt}, make([]int, api.MaxDays+1),
	}
	for i, g := range goods {
		for j, a := range accounts {
			for k, room := range rooms {
				c, err := crew.New(g, a, room)
				if i+j+k == 0 {
					if c == nil || err != api.OK {
						t.Errorf("New of some: %#v, %d", c, err)
					}
				} else if c != nil || err != api.ErrArg {
					t.Errorf("New of %v, %v, %v: %#v, %d, want nil, %d", g, a, room, c, err, api.ErrArg)
				}
			}
		}
	}
	begin(t, some()).wantSame(t, "behind errors")
}

// A nil list and an empty one make the same crew, whose stock, purse and dock refuse all.
func TestNoStores(t *testing.T) {
	for _, s := range []stores{
		{},
		{[]api.Good{}, []api.Account{}, []int{}},
		{some().goods[:0], some().accounts[2:], some().room[:0]},
		{nil, []api.Account{}, make([]int, 0, 9)},
	} {
		b := begin(t, s)
		for what := 1; what <= 5; what++ {
			n := forward(7, what, what, 1, "a")
			b.want(t, "no stores", n, done(n, api.Refused, ""))
			n = back(7, what, what, 1, "a")
			b.want(t, "no stores", n, done(n, api.Done, ""))
		}
		b.wantDone(t, forward(7, 0, api.WorkNotice, 0, ""), back(7, 0, api.WorkNotice, 0, ""))
		if got := b.story(); got != story(2, []api.Effect{{Order: 7}, {Order: 7, Undo: true}}, []string{"", "!"}, "[] [] []") {
			t.Errorf("%s", got)
		}
	}
}

func wantNothing(t *testing.T, c *crew.Crew) {
	t.Helper()
	for _, n := range []api.Note{{}, forward(7, 0, api.WorkHold, 2, "a"), back(7, 0, api.WorkNotice, 2, "a"), with("x", forward(greatest, 15, 1, 1, "a")), {Kind: api.NoteQuery, Key: []byte("k")}, {Kind: -1}} {
		if got := c.Serve(n); !sameNote(got, api.Note{}) {
			t.Errorf("Serve of %v: %v", n, got)
		}
	}
	if c.Epoch() != 0 || len(c.Effects()) != 0 || len(c.Notices()) != 0 || len(c.Goods()) != 0 || len(c.Accounts()) != 0 {
		t.Errorf("%d, %v, %v, %v, %v", c.Epoch(), c.Effects(), c.Notices(), c.Goods(), c.Accounts())
	}
	for _, day := range days() {
		if got := c.Room(day); got != 0 {
			t.Errorf("Room of day %d: %d", day, got)
		}
	}
}

// days are such as there are in a dock, and such as there are not.
func days() []int {
	return []int{math.MinInt, math.MinInt32, -2, -1, 0, 1, 2, 3, 4, api.MaxDays - 1, api.MaxDays, api.MaxDays + 1, math.MaxInt32, 1 << 32, 1<<32 + 2, math.MaxInt}
}

func TestNil(t *testing.T) {
	wantNothing(t, nil)
	c, _ := crew.New([]api.Good{{}}, nil, nil)
	wantNothing(t, c)
}

func TestRoom(t *testing.T) {
	b := begin(t, some())
	want := func(l ...int) {
		t.Helper()
		for _, day := range days() {
			room := 0
			if day >= 0 && day < len(l) {
				room = l[day]
			}
			if got := b.c.Room(day); got != room {
				t.Errorf("Room of day %d: %d, want %d", day, got, room)
			}
		}
	}
	want(2, 0, 3)
	b.wantDone(t, forward(7, 0, api.WorkBook, 1, ""))
	want(1, 0, 3)
	b.wantDone(t, forward(8, 0, api.WorkBook, 3, ""))
	want(1, 0, 0)
	b.wantDone(t, forward(9, 0, api.WorkBook, 1, ""))
	want(0, 0, 0)
	b.wantDone(t, back(7, 0, api.WorkBook, 1, ""))
	want(1, 0, 0)
	b.wantDone(t, back(8, 0, api.WorkBook, 3, ""))
	want(1, 0, 3)
}

// Each day of a dock is replied as its number.
func TestRepliesOfAllDays(t *testing.T) {
	b := begin(t, stores{room: slices.Repeat([]int{1}, api.MaxDays)})
	for day := range api.MaxDays {
		n := forward(uint32(day+1), 3, api.WorkBook, 1, "")
		b.want(t, "a day", n, done(n, api.Done, string([]byte{byte(day)})))
		b.want(t, "a day again", n, done(n, api.Done, string([]byte{byte(day)})))
	}
	n := forward(100, 3, api.WorkBook, 1, "")
	b.want(t, "no day left", n, done(n, api.Refused, ""))
	n = back(60, 3, api.WorkBook, 1, "")
	b.want(t, "the last day given back", n, done(n, api.Done, ""))
	n = forward(101, 3, api.WorkBook, 1, "")
	b.want(t, "the last day again", n, done(n, api.Done, "\x3b"))
}

func TestStoresAreTold(t *testing.T) {
	b := begin(t, stores{
		[]api.Good{{Name: "b", Free: 1}, {Name: "a", Free: 5}, {Name: "", Free: 0}}[:2],
		[]api.Account{{Name: "bob", Money: 3}, {Name: "ann", Money: 10}},
		[]int{2, 0, 3},
	})
	b.wantDone(t, forward(7, 0, api.WorkHold, 1, "b"), forward(8, 0, api.WorkHold, 2, "a"), forward(7, 1, api.WorkAuthorise, 3, "bob"), forward(8, 1, api.WorkAuthorise, 4, "ann"), forward(8, 2, api.WorkCapture, 0, ""))
	if got := b.c.Goods(); !slices.Equal(got, []api.Good{{Name: "a", Free: 3}, {Name: "b", Free: 0}}) {
		t.Errorf("Goods: %v", got)
	}
	if got := b.c.Accounts(); !slices.Equal(got, []api.Account{{Name: "ann", Money: 6}, {Name: "bob", Money: 3, Held: 3}}) {
		t.Errorf("Accounts: %v", got)
	}
}
