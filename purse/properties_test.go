package purse_test

import (
	"slices"
	"testing"

	"drayage/api"
	"drayage/purse"
)

// wantConserved expects, by the purse's own answers, that what is there and what is captured add up to what was there at the beginning, and that what is reserved is the sum of what is authorised.
func wantConserved(t *testing.T, p *purse.Purse, start []api.Account) {
	t.Helper()
	accounts, pays := p.Accounts(), p.Pays()
	if len(accounts) != len(start) {
		t.Errorf("%d accounts, %d at the beginning", len(accounts), len(start))
	}
	total := 0
	for _, x := range start {
		total += x.Money
		at := slices.IndexFunc(accounts, func(a api.Account) bool { return a.Name == x.Name })
		if at < 0 {
			t.Errorf("%q is no account any more: %#v", x.Name, accounts)
			continue
		}
		a := accounts[at]
		total -= a.Money
		if a.Money+sum(pays, a.Name, captured) != x.Money {
			t.Errorf("%#v does not add up to %d with %#v", a, x.Money, pays)
		}
		if a.Held < 0 || a.Held > a.Money || a.Held != sum(pays, a.Name, authorised) {
			t.Errorf("%#v with %#v", a, pays)
		}
	}
	if total != p.Taken() {
		t.Errorf("%d is not there any more, %d is taken", total, p.Taken())
	}
	for i, m := range pays {
		if m.Order == 0 || m.N < 1 || m.State < authorised || m.State > ended || i > 0 && pays[i-1].Order >= m.Order {
			t.Errorf("Pays: %#v", pays)
		}
	}
}

// wantLater expects that each payment of before is still there, and in no earlier state.
func wantLater(t *testing.T, before, after []api.Pay) {
	t.Helper()
	for _, m := range before {
		at := slices.IndexFunc(after, func(x api.Pay) bool { return x.Order == m.Order })
		if at < 0 || after[at].Name != m.Name || after[at].N != m.N || after[at].State < m.State {
			t.Errorf("%#v came to %#v", m, after)
		}
	}
}

// snapshot is all that a purse tells.
type snapshot struct {
	accounts []api.Account
	pays     []api.Pay
	taken    int
}

func snapshotOf(p *purse.Purse) snapshot {
	return snapshot{accounts: p.Accounts(), pays: p.Pays(), taken: p.Taken()}
}

func (x snapshot) equals(y snapshot) bool {
	return slices.Equal(x.accounts, y.accounts) && slices.Equal(x.pays, y.pays) && x.taken == y.taken
}

// drawCall returns a call with arguments at and around the bounds; draw returns a number from 0 up to less than its argument.
func drawCall(b both, draw func(n int) int) call {
	orders := []uint32{0, 1, 2, 3, 4, 5, 6, 7, 8, 9, 1 << 31, greatest}
	names := []string{"", "an account that there is not"}
	for _, a := range b.m.start {
		names = append(names, a.Name, a.Name, a.Name)
	}
	c := call{order: orders[draw(len(orders))]}
	c.what = []string{"Authorise", "Authorise", "Capture", "Capture", "Void", "Refund"}[draw(6)]
	if c.what == "Authorise" {
		c.name = names[draw(len(names))]
		a, _ := b.m.account(c.name)
		left := a.Money - a.Held
		c.n = []int{1, 1, 2, left - 1, left, left + 1, 0, -1, a.Money, left / 2}[draw(10)]
	}
	return c
}

// play makes n drawn calls, and expects the properties and the model's answers after each; counts is how often each call had each verdict.
func play(t *testing.T, b both, n int, draw func(n int) int, counts map[verdict]int) {
	t.Helper()
	for range n {
		c := drawCall(b, draw)
		before := snapshotOf(b.p)
		got := b.do(t, c)
		counts[verdict{call{what: c.what}, got}]++
		if got == api.Refused && !before.equals(snapshotOf(b.p)) {
			t.Errorf("%#v was refused, and made %#v of %#v", c, snapshotOf(b.p), before)
		}
		wantLater(t, before.pays, b.p.Pays())
		wantConserved(t, b.p, b.m.start)
		b.wantSame(t, "drawn")
		if t.Failed() {
			t.FailNow()
		}
	}
}

func TestAnyCalls(t *testing.T) {
	r := source()
	counts := map[verdict]int{}
	for range 40 {
		for _, x := range ordinary() {
			play(t, begin(t, x.l), 100, r.Intn, counts)
		}
	}
	for _, what := range []string{"Authorise", "Capture", "Void", "Refund"} {
		for _, v := range []int{api.Done, api.Refused} {
			if n := counts[verdict{call{what: what}, v}]; n < 500 {
				t.Errorf("%s had the verdict %d %d times: too few to tell", what, v, n)
			}
		}
	}
}

// What is authorised and let go, or captured and refunded, leaves the money as it was, at whatever point; only the payment stays.
func TestThereAndBack(t *testing.T) {
	r := source()
	done := 0
	for range 2000 {
		b := begin(t, some())
		play(t, b, r.Intn(30), r.Intn, map[verdict]int{})
		before := snapshotOf(b.p)
		c := drawCall(b, r.Intn)
		c.what, c.order = "Authorise", 99
		if b.do(t, c) == api.Done {
			done++
			for _, what := range [][]string{{"Void"}, {"Capture", "Refund"}}[r.Intn(2)] {
				b.do(t, call{what: what, order: 99})
			}
			if got := sum(b.p.Pays(), c.name, ended) - sum(before.pays, c.name, ended); got != c.n {
				t.Errorf("%#v: %d ended", c, got)
			}
		}
		if after := snapshotOf(b.p); !slices.Equal(before.accounts, after.accounts) || before.taken != after.taken {
			t.Errorf("%#v and its end made %#v of %#v", c, after, before)
		}
		play(t, b, 10, r.Intn, map[verdict]int{})
	}
	if done < 100 {
		t.Errorf("%d payments: too few to tell", done)
	}
}

// All payments are let go or refunded, in any order: all money is as it was.
func TestAllGivenBack(t *testing.T) {
	r := source()
	for range 200 {
		start := many(20)
		b := begin(t, start)
		play(t, b, 60, r.Intn, map[verdict]int{})
		pays := b.p.Pays()
		for _, i := range r.Perm(len(pays)) {
			b.do(t, call{what: "Void", order: pays[i].Order})
			b.do(t, call{what: "Refund", order: pays[i].Order})
		}
		b.wantSame(t, "all given back")
		slices.SortFunc(start, func(x, y api.Account) int { return slices.Compare([]byte(x.Name), []byte(y.Name)) })
		if got := b.p.Accounts(); !slices.Equal(got, start) || b.p.Taken() != 0 {
			t.Errorf("%#v and %d taken, want %#v", got, b.p.Taken(), start)
		}
	}
}

// All sequences of four calls by two orders on a small purse.
func TestAllShortSequences(t *testing.T) {
	var calls []call
	for order := uint32(1); order <= 2; order++ {
		for n := 1; n <= 2; n++ {
			calls = append(calls, call{"Authorise", order, "ann", n}, call{"Authorise", order, "bob", n})
		}
		calls = append(calls, call{what: "Capture", order: order}, call{what: "Void", order: order}, call{what: "Refund", order: order})
	}
	start := []api.Account{account("bob", 1), account("ann", 3)}
	last := len(calls) * len(calls) * len(calls) * len(calls)
	for i := range last {
		b := begin(t, start)
		for at := i; at > 0; at /= len(calls) {
			b.do(t, calls[at%len(calls)])
		}
		b.wantSame(t, "short")
		wantConserved(t, b.p, start)
		if t.Failed() {
			t.Fatalf("in sequence %d", i)
		}
	}
}

// An order pays once only, whatever became of its payment, and however often it asks.
func TestEachOrderPaysOnce(t *testing.T) {
	b := begin(t, []api.Account{account("ann", 1000), account("bob", 1000)})
	for i := range uint32(300) {
		order := i + 1
		for range 3 {
			for _, name := range []string{"ann", "bob"} {
				b.do(t, call{"Authorise", order, name, 5})
				b.do(t, call{what: []string{"Capture", "Void", "Refund"}[i%3], order: order})
			}
		}
	}
	b.wantSame(t, "in the end")
	wantConserved(t, b.p, b.m.start)
	// 100 orders captured 5 each; 100 were let go; those that could not be refunded have reserved 5 each.
	wantState(t, "in the end", b.p, []api.Account{reserved("ann", 500, 500), account("bob", 1000)}, b.m.sorted(), 500)
}

// So many orders pay as there are units of money.
func TestManyOrders(t *testing.T) {
	p := begin(t, []api.Account{account("ann", 2000), account("bob", 1000)}).p
	r := source()
	want := make([]api.Pay, 3000)
	for i, at := range r.Perm(3000) {
		name := []string{"ann", "bob", "ann"}[i%3]
		want[at] = pay(uint32(at+1), name, 1, authorised)
		wantVerdicts(t, p, []verdict{authorise(uint32(at+1), name, 1, api.Done)})
	}
	wantVerdicts(t, p, []verdict{authorise(5000, "ann", 1, api.Refused), authorise(5000, "bob", 1, api.Refused)})
	wantState(t, "all authorised", p, []api.Account{reserved("ann", 2000, 2000), reserved("bob", 1000, 1000)}, want, 0)
	left := []api.Account{account("ann", 2000), account("bob", 1000)}
	for i, at := range r.Perm(3000) {
		if i%2 == 0 {
			want[at].State = ended
			wantVerdicts(t, p, []verdict{void(uint32(at+1), api.Done)})
			continue
		}
		want[at].State = captured
		wantVerdicts(t, p, []verdict{capture(uint32(at+1), api.Done)})
		of := slices.IndexFunc(left, func(a api.Account) bool { return a.Name == want[at].Name })
		left[of].Money--
	}
	wantState(t, "all ended", p, left, want, 1500)
	wantConserved(t, p, []api.Account{account("ann", 2000), account("bob", 1000)})
}

func FuzzCalls(f *testing.F) {
	f.Add(uint8(4), []byte("Authorise Capture Void Refund, and what comes behind them"))
	f.Add(uint8(20), []byte{1, 0, 2, 0, 1, 2, 1, 5, 2, 0, 5, 4, 2, 4, 3, 1, 8, 3, 3, 4})
	f.Fuzz(func(t *testing.T, beginning uint8, b []byte) {
		all := ordinary()
		at := 0
		draw := func(n int) int {
			if at == len(b) {
				return 0
			}
			at++
			return int(b[at-1]) % n
		}
		play(t, begin(t, all[int(beginning)%len(all)].l), min(len(b)/3+1, 200), draw, map[verdict]int{})
	})
}
