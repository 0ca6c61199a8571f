package purse_test

import (
	"math"
	"math/rand"
	"slices"
	"strings"
	"testing"

	"drayage/api"
	"drayage/purse"
)

const greatest = math.MaxUint32 // of orders

// The states of a payment, by the chapter.
const (
	authorised = 1
	captured   = 2
	ended      = 3
)

// source gives the same numbers in every run, so that a failure can be repeated.
func source() *rand.Rand { return rand.New(rand.NewSource(10)) }

func long(n int) string { return strings.Repeat("x", n) }

// account is one of which nothing is reserved.
func account(name string, money int) api.Account { return api.Account{Name: name, Money: money} }

func reserved(name string, money, held int) api.Account {
	return api.Account{Name: name, Money: money, Held: held}
}

func pay(order uint32, name string, n, state int) api.Pay {
	return api.Pay{Order: order, Name: name, N: n, State: state}
}

// many returns n accounts with different names and money, in no order.
func many(n int) []api.Account {
	var l []api.Account
	for i := range n {
		l = append(l, account(string([]byte{byte(i*97 + 11), byte(i % 3)}), i*i))
	}
	return l
}

type sample struct {
	name string
	l    []api.Account
}

// ordinary returns accounts of which a purse can be made.
func ordinary() []sample {
	return []sample{
		{"nil", nil},
		{"no accounts", []api.Account{}},
		{"one account", []api.Account{account("ann", 10)}},
		{"one account without money", []api.Account{account("ann", 0)}},
		{"two accounts", []api.Account{account("bob", 1), account("ann", 10)}},
		{"a name of 1 byte", []api.Account{account("\x00", 5)}},
		{"a name of MaxKey - 1 bytes", []api.Account{account(long(api.MaxKey-1), 5)}},
		{"a name of MaxKey bytes", []api.Account{account(long(api.MaxKey), 5)}},
		{"a name of MaxKey bytes, in two bytes each", []api.Account{account(strings.Repeat("é", api.MaxKey/2), 5)}},
		{"Money of 1", []api.Account{account("a", 1)}},
		{"Money of MaxCount + 1", []api.Account{account("a", api.MaxCount+1)}},
		{"Money of MaxMoney - 1", []api.Account{account("a", api.MaxMoney-1)}},
		{"Money of MaxMoney", []api.Account{account("a", api.MaxMoney)}},
		{"Money of MaxMoney in each account", []api.Account{account("c", api.MaxMoney), account("a", api.MaxMoney), account("d", api.MaxMoney), account("b", api.MaxMoney)}},
		{"names that differ in their case", []api.Account{account("a", 5), account("A", 6)}},
		{"names that differ at their end", []api.Account{account(long(31)+"b", 5), account(long(31)+"a", 6)}},
		{"names that differ at their beginning", []api.Account{account("b"+long(31), 5), account("a"+long(31), 6)}},
		{"names of which one begins another", []api.Account{account("ab", 1), account("a", 2), account("abc", 3), account("b", 4), account("a\x00", 5)}},
		{"names that read alike", []api.Account{account("é", 1), account("e\u0301", 2), account("a", 3), account("a ", 4), account(" a", 5)}},
		{"names of any bytes", []api.Account{account("\xff", 1), account("\x7f", 2), account("\x80", 3), account("\x00", 4), account("\x00\x00", 5), account("\xfe\xff", 6), account("\xff\x00", 7), account("\xed\xa0\x80", 8)}},
		{"some", some()},
		{"MaxGoods - 1 accounts", many(api.MaxGoods - 1)},
		{"MaxGoods accounts", many(api.MaxGoods)},
	}
}

// some returns accounts without money, with 1, with a little, and with as much as there can be, in no order.
func some() []api.Account {
	return []api.Account{account("bob", 1), account("ann", 10), account("full", api.MaxMoney), account("anna", 8), account("none", 0)}
}

// broken returns accounts of which no purse can be made.
func broken() []sample {
	all := []sample{
		{"MaxGoods + 1 accounts", many(api.MaxGoods + 1)},
		{"200 accounts", many(200)},
		{"256 + 1 accounts of one name", slices.Repeat([]api.Account{account("a", 1)}, 257)},
		{"twice the same", []api.Account{account("a", 5), account("a", 5)}},
		{"twice the same name", []api.Account{account("a", 5), account("a", 6)}},
		{"twice the same name, without money", []api.Account{account("a", 0), account("a", 0)}},
		{"twice the same name, apart", []api.Account{account("a", 5), account("b", 1), account("c", 1), account("a", 5)}},
		{"twice the same name, at the end", []api.Account{account("b", 5), account("c", 1), account("a", 1), account("a", 2)}},
		{"twice the longest name", []api.Account{account(long(api.MaxKey), 5), account("b", 1), account(long(api.MaxKey), 5)}},
		{"twice the same name of any bytes", []api.Account{account("\xff\x00", 5), account("\xff\x00", 5)}},
		{"thrice the same name", []api.Account{account("a", 1), account("a", 2), account("a", 3)}},
		{"MaxGoods accounts, the first one twice", append(many(api.MaxGoods-1), many(1)...)},
	}
	faults := []sample{{"the zero account", []api.Account{{}}}}
	for _, name := range []string{"", long(api.MaxKey + 1), long(255), long(256 + 1), long(1 << 16), strings.Repeat("é", api.MaxKey/2) + "e", strings.Repeat("€", 11)} {
		faults = append(faults, sample{"a name of too few or too many bytes", []api.Account{account(name, 5)}})
	}
	for _, n := range []int{-1, -api.MaxMoney, math.MinInt32, math.MinInt, api.MaxMoney + 1, math.MaxInt32, 1 << 32, 1<<32 + 1, math.MaxInt} {
		faults = append(faults, sample{"Money out of bounds", []api.Account{account("a", n)}})
	}
	for _, n := range []int{1, -1, 5, -5, 10, 11, api.MaxMoney, math.MaxInt, math.MinInt, 1 << 32, 1 << 62} {
		faults = append(faults, sample{"Held that is not 0", []api.Account{reserved("a", 10, n)}})
	}
	for _, x := range faults {
		b, c := account("b", 1), account("c", 1)
		all = append(all, x,
			sample{x.name + ", ahead of others", append(slices.Clone(x.l), b, c)},
			sample{x.name + ", between others", []api.Account{b, x.l[0], c}},
			sample{x.name + ", behind others", []api.Account{b, c, x.l[0]}},
			sample{x.name + ", twice", []api.Account{x.l[0], x.l[0]}})
	}
	return all
}

// model is a purse by the chapter's words: what was there at the beginning, and all payments. What an account has is what is left.
type model struct {
	start []api.Account
	pays  []api.Pay
}

// sum returns how much the payments in a state, from an account, come to.
func sum(l []api.Pay, name string, state int) int {
	n := 0
	for _, p := range l {
		if p.Name == name && p.State == state {
			n += p.N
		}
	}
	return n
}

// account returns what an account has, and whether there is one.
func (m *model) account(name string) (api.Account, bool) {
	for _, a := range m.start {
		if a.Name == name {
			return reserved(name, a.Money-sum(m.pays, name, captured), sum(m.pays, name, authorised)), true
		}
	}
	return api.Account{}, false
}

// call is a call of Authorise, Capture, Void or Refund.
type call struct {
	what  string
	order uint32
	name  string
	n     int
}

func (m *model) do(c call) int {
	at := slices.IndexFunc(m.pays, func(p api.Pay) bool { return p.Order == c.order })
	if c.what == "Authorise" {
		a, isThere := m.account(c.name)
		if c.order == 0 || c.n < 1 || at >= 0 || !isThere || a.Money-a.Held < c.n {
			return api.Refused
		}
		m.pays = append(m.pays, pay(c.order, c.name, c.n, authorised))
		return api.Done
	}
	was, next := captured, ended
	switch c.what {
	case "Capture":
		was, next = authorised, captured
	case "Void":
		was = authorised
	}
	if at < 0 || m.pays[at].State != was {
		return api.Refused
	}
	m.pays[at].State = next
	return api.Done
}

// accounts returns the accounts, each one put where the names ahead of it are less.
func (m *model) accounts() []api.Account {
	var l []api.Account
	for _, x := range m.start {
		at := 0
		for at < len(l) && l[at].Name < x.Name {
			at++
		}
		a, _ := m.account(x.Name)
		l = slices.Insert(l, at, a)
	}
	return l
}

// sorted returns the payments, each one put where the orders ahead of it are less.
func (m *model) sorted() []api.Pay {
	var l []api.Pay
	for _, p := range m.pays {
		at, _ := slices.BinarySearchFunc(l, p.Order, func(x api.Pay, order uint32) int {
			if x.Order < order {
				return -1
			}
			return 1
		})
		l = slices.Insert(l, at, p)
	}
	return l
}

func (m *model) taken() int {
	n := 0
	for _, a := range m.start {
		n += sum(m.pays, a.Name, captured)
	}
	return n
}

// both is a purse beside its model.
type both struct {
	p *purse.Purse
	m *model
}

func begin(t *testing.T, l []api.Account) both {
	t.Helper()
	p, err := purse.New(l)
	if err != api.OK || p == nil {
		t.Fatalf("New of %#v: %#v, %d", l, p, err)
	}
	return both{p, &model{start: slices.Clone(l)}}
}

// do calls the purse and its model, which have to give the same verdict, and returns that.
func (b both) do(t *testing.T, c call) int {
	t.Helper()
	got, want := doOn(b.p, c), b.m.do(c)
	if got != want {
		t.Errorf("%#v: %d, want %d, with the payments %#v", c, got, want, b.m.pays)
	}
	return got
}

func doOn(p *purse.Purse, c call) int {
	switch c.what {
	case "Authorise":
		return p.Authorise(c.order, c.name, c.n)
	case "Capture":
		return p.Capture(c.order)
	case "Void":
		return p.Void(c.order)
	}
	return p.Refund(c.order)
}

// wantSame expects that the purse tells what its model does.
func (b both) wantSame(t *testing.T, about string) {
	t.Helper()
	wantState(t, about, b.p, b.m.accounts(), b.m.sorted(), b.m.taken())
}

// wantState expects exactly these accounts and payments, and that so much is taken.
func wantState(t *testing.T, about string, p *purse.Purse, accounts []api.Account, pays []api.Pay, taken int) {
	t.Helper()
	if got := p.Accounts(); !slices.Equal(got, accounts) {
		t.Errorf("%s: Accounts: %#v, want %#v", about, got, accounts)
	}
	if got := p.Pays(); !slices.Equal(got, pays) {
		t.Errorf("%s: Pays: %#v, want %#v", about, got, pays)
	}
	if got := p.Taken(); got != taken {
		t.Errorf("%s: Taken: %d, want %d", about, got, taken)
	}
}

// wantVerdicts expects these verdicts of calls, one after the other.
func wantVerdicts(t *testing.T, p *purse.Purse, l []verdict) {
	t.Helper()
	for i, x := range l {
		if got := doOn(p, x.call); got != x.want {
			t.Errorf("call %d, %#v: %d, want %d", i, x.call, got, x.want)
		}
	}
}

type verdict struct {
	call
	want int
}

func authorise(order uint32, name string, n, want int) verdict {
	return verdict{call{"Authorise", order, name, n}, want}
}

func capture(order uint32, want int) verdict {
	return verdict{call{what: "Capture", order: order}, want}
}

func void(order uint32, want int) verdict { return verdict{call{what: "Void", order: order}, want} }

func refund(order uint32, want int) verdict {
	return verdict{call{what: "Refund", order: order}, want}
}
