package purse_test

import (
	"math"
	"slices"
	"testing"

	"drayage/api"
	"drayage/purse"
)

// inUse returns a purse of some, with payments in each state, from several accounts:
//
//	order 7 has authorised 4 of ann, order 3 all of anna, the greatest order 1 of full;
//	order 5 has captured 3 of ann, order 2 has captured 2 of full;
//	order 4 was let go, with 6 of ann; order 9 was refunded, with 5 of full.
func inUse(t *testing.T) *purse.Purse {
	t.Helper()
	p := begin(t, some()).p
	wantVerdicts(t, p, []verdict{
		authorise(5, "ann", 3, api.Done), authorise(4, "ann", 6, api.Done), void(4, api.Done), authorise(7, "ann", 4, api.Done), capture(5, api.Done),
		authorise(greatest, "full", 1, api.Done), authorise(9, "full", 5, api.Done), capture(9, api.Done), authorise(2, "full", 2, api.Done), capture(2, api.Done), refund(9, api.Done),
		authorise(3, "anna", 8, api.Done),
	})
	return p
}

func accountsInUse() []api.Account {
	return []api.Account{reserved("ann", 7, 4), reserved("anna", 8, 8), account("bob", 1), reserved("full", api.MaxMoney-2, 1), account("none", 0)}
}

func paysInUse() []api.Pay {
	return []api.Pay{
		pay(2, "full", 2, captured), pay(3, "anna", 8, authorised), pay(4, "ann", 6, ended), pay(5, "ann", 3, captured),
		pay(7, "ann", 4, authorised), pay(9, "full", 5, ended), pay(greatest, "full", 1, authorised),
	}
}

const takenInUse = 2 + 3

func TestInUse(t *testing.T) {
	wantState(t, "in use", inUse(t), accountsInUse(), paysInUse(), takenInUse)
}

// refused are calls that the purse in use refuses; most of them for one reason.
var refused = []struct {
	why string
	call
}{
	{"order 0", call{"Authorise", 0, "ann", 1}},
	{"order 0, all that there is", call{"Authorise", 0, "bob", 1}},
	{"n of 0", call{"Authorise", 1, "ann", 0}},
	{"n of -1", call{"Authorise", 1, "ann", -1}},
	{"n of -1, of full, of which 1 is reserved", call{"Authorise", 1, "full", -1}},
	{"the least n", call{"Authorise", 1, "ann", math.MinInt}},
	{"the least n, of full", call{"Authorise", 1, "full", math.MinInt}},
	{"the least n in 32 bits", call{"Authorise", 1, "ann", math.MinInt32}},
	{"n of 0, of none", call{"Authorise", 1, "none", 0}},
	{"n of -1, of none", call{"Authorise", 1, "none", -1}},
	{"n of 0, where all is reserved", call{"Authorise", 1, "anna", 0}},
	{"authorised, from the same account", call{"Authorise", 7, "ann", 1}},
	{"authorised, as much from the same account", call{"Authorise", 7, "ann", 3}},
	{"authorised, from another account", call{"Authorise", 7, "bob", 1}},
	{"authorised, all of an account, from another one", call{"Authorise", 3, "ann", 1}},
	{"authorised, by the greatest order", call{"Authorise", greatest, "full", 1}},
	{"authorised, by the greatest order, from another account", call{"Authorise", greatest, "ann", 1}},
	{"captured, from the same account", call{"Authorise", 5, "ann", 3}},
	{"captured, from another account", call{"Authorise", 5, "full", 3}},
	{"captured, of another account", call{"Authorise", 2, "ann", 2}},
	{"let go, from the same account", call{"Authorise", 4, "ann", 1}},
	{"let go, from another account", call{"Authorise", 4, "full", 6}},
	{"refunded, from the same account", call{"Authorise", 9, "full", 5}},
	{"refunded, from another account", call{"Authorise", 9, "bob", 1}},
	{"no such account", call{"Authorise", 1, "cy", 1}},
	{"no such account, but one that begins with it", call{"Authorise", 1, "an", 1}},
	{"no such account, but one with which it begins", call{"Authorise", 1, "fully", 1}},
	{"no such account, but one in small letters", call{"Authorise", 1, "Ann", 1}},
	{"no such account: the empty name", call{"Authorise", 1, "", 1}},
	{"no such account: a nought behind a name", call{"Authorise", 1, "ann\x00", 1}},
	{"no such account: MaxKey + 1 bytes", call{"Authorise", 1, long(api.MaxKey + 1), 1}},
	{"no such account: many bytes", call{"Authorise", 1, long(1 << 16), 1}},
	{"one more than is not reserved", call{"Authorise", 1, "ann", 4}},
	{"all of the money, of which some is reserved", call{"Authorise", 1, "ann", 7}},
	{"as much as there was at the beginning", call{"Authorise", 1, "ann", 10}},
	{"one more than there was at the beginning", call{"Authorise", 1, "ann", 11}},
	{"one more than there is", call{"Authorise", 1, "bob", 2}},
	{"one more than is not reserved, of full", call{"Authorise", 1, "full", api.MaxMoney - 2}},
	{"MaxMoney, of full", call{"Authorise", 1, "full", api.MaxMoney}},
	{"one more than there ever was", call{"Authorise", 1, "full", api.MaxMoney + 1}},
	{"one where there is no money", call{"Authorise", 1, "none", 1}},
	{"one where all is reserved", call{"Authorise", 1, "anna", 1}},
	{"the greatest n", call{"Authorise", 1, "ann", math.MaxInt}},
	{"the greatest n, of full", call{"Authorise", 1, "full", math.MaxInt}},
	{"the greatest n, where all is reserved", call{"Authorise", 1, "anna", math.MaxInt}},
	{"the greatest n in 32 bits", call{"Authorise", 1, "full", math.MaxInt32}},
	{"n that is 1 in its lower half", call{"Authorise", 1, "ann", 1<<32 + 1}},
	{"order 0, and n of 0", call{"Authorise", 0, "ann", 0}},
	{"order 0, and no such account", call{"Authorise", 0, "cy", 1}},
	{"order 0, and too much", call{"Authorise", 0, "ann", 4}},
	{"n of 0, and authorised", call{"Authorise", 7, "ann", 0}},
	{"n of -4, and authorised as much", call{"Authorise", 7, "ann", -4}},
	{"n of -1, and captured", call{"Authorise", 5, "ann", -1}},
	{"n of 0, and no such account", call{"Authorise", 1, "cy", 0}},
	{"n of 0, and the empty name", call{"Authorise", 1, "", 0}},
	{"authorised, and no such account", call{"Authorise", 7, "cy", 1}},
	{"captured, and no such account", call{"Authorise", 5, "cy", 1}},
	{"let go, and no such account", call{"Authorise", 4, "cy", 1}},
	{"authorised, and too much", call{"Authorise", 7, "ann", 4}},
	{"captured, and too much", call{"Authorise", 5, "ann", 4}},
	{"refunded, and too much", call{"Authorise", 9, "none", 5}},
	{"no such account, and too much", call{"Authorise", 1, "cy", math.MaxInt}},
	{"all at once", call{"Authorise", 0, "", math.MinInt}},

	{"captured", call{what: "Capture", order: 5}},
	{"captured", call{what: "Void", order: 5}},
	{"captured, from full", call{what: "Capture", order: 2}},
	{"captured, from full", call{what: "Void", order: 2}},
	{"authorised", call{what: "Refund", order: 7}},
	{"authorised, all of an account", call{what: "Refund", order: 3}},
	{"authorised, by the greatest order", call{what: "Refund", order: greatest}},
	{"let go", call{what: "Capture", order: 4}},
	{"let go", call{what: "Void", order: 4}},
	{"let go", call{what: "Refund", order: 4}},
	{"refunded", call{what: "Capture", order: 9}},
	{"refunded", call{what: "Void", order: 9}},
	{"refunded", call{what: "Refund", order: 9}},
	{"never had one", call{what: "Capture", order: 1}},
	{"never had one", call{what: "Void", order: 1}},
	{"never had one", call{what: "Refund", order: 1}},
	{"never had one, beside one that has", call{what: "Capture", order: 8}},
	{"never had one, beside one that has", call{what: "Void", order: 6}},
	{"never had one, beside one that has", call{what: "Refund", order: 6}},
	{"never had one, beside the greatest", call{what: "Capture", order: greatest - 1}},
	{"never had one, beside the greatest", call{what: "Void", order: greatest - 1}},
	{"never had one, beside the greatest", call{what: "Refund", order: greatest - 1}},
	{"order 0", call{what: "Capture"}},
	{"order 0", call{what: "Void"}},
	{"order 0", call{what: "Refund"}},
}

func TestRefused(t *testing.T) {
	one := inUse(t)
	for _, x := range refused {
		p := inUse(t)
		for range 2 {
			if got := doOn(p, x.call); got != api.Refused {
				t.Errorf("%s: %#v: %d, want %d", x.why, x.call, got, api.Refused)
			}
			wantState(t, x.why, p, accountsInUse(), paysInUse(), takenInUse)
		}
		doOn(one, x.call)
	}
	wantState(t, "after all of them", one, accountsInUse(), paysInUse(), takenInUse)
	// What comes behind them gets the answers that it would have got without them.
	wantVerdicts(t, one, []verdict{
		authorise(1, "ann", 3, api.Done), authorise(6, "bob", 1, api.Done), capture(7, api.Done), void(3, api.Done), refund(5, api.Done),
		capture(greatest, api.Done), refund(2, api.Done), authorise(8, "anna", 8, api.Done),
	})
	wantState(t, "and behind them", one,
		[]api.Account{reserved("ann", 6, 3), reserved("anna", 8, 8), reserved("bob", 1, 1), account("full", api.MaxMoney-1), account("none", 0)},
		[]api.Pay{
			pay(1, "ann", 3, authorised), pay(2, "full", 2, ended), pay(3, "anna", 8, ended), pay(4, "ann", 6, ended), pay(5, "ann", 3, ended), pay(6, "bob", 1, authorised),
			pay(7, "ann", 4, captured), pay(8, "anna", 8, authorised), pay(9, "full", 5, ended), pay(greatest, "full", 1, captured),
		}, 4+1)
}

func TestAuthorise(t *testing.T) {
	for _, x := range []struct {
		name string
		call
	}{
		{"the first order", call{"Authorise", 1, "ann", 1}},
		{"one less than is not reserved", call{"Authorise", 1, "ann", 2}},
		{"just as much as is not reserved", call{"Authorise", 1, "ann", 3}},
		{"all that there is", call{"Authorise", 1, "bob", 1}},
		{"one of much", call{"Authorise", 1, "full", 1}},
		{"one less than is not reserved of much", call{"Authorise", 1, "full", api.MaxMoney - 4}},
		{"just as much as is not reserved of much", call{"Authorise", 1, "full", api.MaxMoney - 3}},
		{"an order between others", call{"Authorise", 6, "ann", 1}},
		{"the greatest order but one", call{"Authorise", greatest - 1, "ann", 2}},
		{"an order of 31 bits and one more", call{"Authorise", 1 << 31, "ann", 2}},
	} {
		p := inUse(t)
		if got := doOn(p, x.call); got != api.Done {
			t.Errorf("%s: %#v: %d, want %d", x.name, x.call, got, api.Done)
		}
		accounts := accountsInUse()
		for i := range accounts {
			if accounts[i].Name == x.call.name {
				accounts[i].Held += x.n
			}
		}
		pays := append(paysInUse(), pay(x.order, x.call.name, x.n, authorised))
		slices.SortFunc(pays, func(a, b api.Pay) int { return int(int64(a.Order) - int64(b.Order)) })
		wantState(t, x.name, p, accounts, pays, takenInUse)
	}
}

// An account can be reserved in one go, by many orders, and once more after they were let go.
func TestAuthoriseAll(t *testing.T) {
	p := begin(t, []api.Account{account("ann", api.MaxMoney), account("bob", 100)}).p
	wantVerdicts(t, p, []verdict{authorise(1, "ann", api.MaxMoney, api.Done), authorise(2, "ann", 1, api.Refused)})
	pays := []api.Pay{pay(1, "ann", api.MaxMoney, authorised)}
	wantState(t, "in one go", p, []api.Account{reserved("ann", api.MaxMoney, api.MaxMoney), account("bob", 100)}, pays, 0)
	for i := range uint32(100) {
		wantVerdicts(t, p, []verdict{authorise(1000-i, "bob", 1, api.Done)})
		pays = slices.Insert(pays, 1, pay(1000-i, "bob", 1, authorised))
	}
	wantVerdicts(t, p, []verdict{authorise(2, "bob", 1, api.Refused), void(1, api.Done)})
	pays[0].State = ended
	wantState(t, "by many orders", p, []api.Account{account("ann", api.MaxMoney), reserved("bob", 100, 100)}, pays, 0)
	for i := range uint32(100) {
		wantVerdicts(t, p, []verdict{void(901+i, api.Done)})
		pays[i+1].State = ended
	}
	wantVerdicts(t, p, []verdict{authorise(2, "bob", 100, api.Done), capture(2, api.Done), authorise(3, "bob", 1, api.Refused), authorise(3, "ann", api.MaxMoney, api.Done), capture(3, api.Done), authorise(4, "ann", 1, api.Refused)})
	pays = slices.Insert(pays, 1, pay(2, "bob", 100, captured), pay(3, "ann", api.MaxMoney, captured))
	wantState(t, "in the end", p, []api.Account{account("ann", 0), account("bob", 0)}, pays, api.MaxMoney+100)
}

// One capture, void or refund changes the payment of its order and the account of that, and nothing else.
func TestOneMove(t *testing.T) {
	for _, x := range []struct {
		call
		state, money, held int
	}{
		{call{what: "Capture", order: 7}, captured, -4, -4},
		{call{what: "Capture", order: 3}, captured, -8, -8},
		{call{what: "Capture", order: greatest}, captured, -1, -1},
		{call{what: "Void", order: 7}, ended, 0, -4},
		{call{what: "Void", order: 3}, ended, 0, -8},
		{call{what: "Void", order: greatest}, ended, 0, -1},
		{call{what: "Refund", order: 5}, ended, 3, 0},
		{call{what: "Refund", order: 2}, ended, 2, 0},
	} {
		p := inUse(t)
		if got := doOn(p, x.call); got != api.Done {
			t.Errorf("%#v: %d, want %d", x.call, got, api.Done)
		}
		pays, accounts := paysInUse(), accountsInUse()
		at := slices.IndexFunc(pays, func(m api.Pay) bool { return m.Order == x.order })
		pays[at].State = x.state
		of := slices.IndexFunc(accounts, func(a api.Account) bool { return a.Name == pays[at].Name })
		accounts[of].Money += x.money
		accounts[of].Held += x.held
		taken := takenInUse
		switch x.what {
		case "Capture":
			taken += pays[at].N
		case "Refund":
			taken -= pays[at].N
		}
		wantState(t, x.what, p, accounts, pays, taken)
		if got := doOn(p, x.call); got != api.Refused {
			t.Errorf("%#v, again: %d, want %d", x.call, got, api.Refused)
		}
		wantState(t, x.what+", again", p, accounts, pays, taken)
	}
}

// What comes of each call in each state of a payment, by the chapter's words.
func TestEachStateMeetsEachCall(t *testing.T) {
	to := map[string][]verdict{
		"none":       nil,
		"authorised": {authorise(1, "ann", 4, api.Done)},
		"captured":   {authorise(1, "ann", 4, api.Done), capture(1, api.Done)},
		"let go":     {authorise(1, "ann", 4, api.Done), void(1, api.Done)},
		"refunded":   {authorise(1, "ann", 4, api.Done), capture(1, api.Done), refund(1, api.Done)},
	}
	done := map[string]int{
		"none, Authorise":     authorised,
		"authorised, Capture": captured,
		"authorised, Void":    ended,
		"captured, Refund":    ended,
	}
	for name, way := range to {
		for _, c := range []call{{"Authorise", 1, "ann", 4}, {"Authorise", 1, "bob", 4}, {what: "Capture", order: 1}, {what: "Void", order: 1}, {what: "Refund", order: 1}} {
			p := begin(t, []api.Account{account("bob", 4), account("ann", 10)}).p
			wantVerdicts(t, p, way)
			accounts, pays, taken := p.Accounts(), p.Pays(), p.Taken()
			got := doOn(p, c)
			state, isDone := done[name+", "+c.what]
			if isDone {
				if m := p.Pays(); got != api.Done || len(m) != 1 || m[0].Order != 1 || m[0].N != 4 || m[0].State != state {
					t.Errorf("%s, %#v: %d, and the payments %#v, want the state %d", name, c, got, m, state)
				}
				continue
			}
			if got != api.Refused {
				t.Errorf("%s, %#v: %d, want %d", name, c, got, api.Refused)
			}
			wantState(t, name, p, accounts, pays, taken)
		}
	}
}

func TestPaysAreSortedByOrder(t *testing.T) {
	orders := []uint32{1, 2, 9, 10, 255, 256, 1<<16 - 1, 1 << 16, 1<<31 - 1, 1 << 31, 1<<31 + 1, greatest - 1, greatest}
	// Neither the names, nor the sums, nor the states rise with the orders.
	names, states := []string{"bob", "ann", "cy"}, []int{ended, captured, authorised, captured}
	var want []api.Pay
	for i, order := range orders {
		want = append(want, pay(order, names[i%3], 20-i, states[i%4]))
	}
	r := source()
	for range 300 {
		b := begin(t, []api.Account{account("ann", 100), account("bob", 100), account("cy", 100)})
		for _, i := range r.Perm(len(want)) {
			b.do(t, call{"Authorise", want[i].Order, want[i].Name, want[i].N})
		}
		for _, i := range r.Perm(len(want)) {
			moves := [][]string{{"Capture", "Refund"}, {"Capture"}, {}, {"Capture"}}[i%4]
			if i%8 == 4 {
				moves = []string{"Void"}
			}
			for _, what := range moves {
				b.do(t, call{what: what, order: want[i].Order})
			}
		}
		if got := b.p.Pays(); !slices.Equal(got, want) {
			t.Errorf("Pays: %#v, want %#v", got, want)
		}
		b.wantSame(t, "sorted")
	}
}

// The greatest order goes through each state, behind all others.
func TestGreatestOrder(t *testing.T) {
	for _, way := range [][]verdict{
		{capture(greatest, api.Done), void(greatest, api.Refused), refund(greatest, api.Done), refund(greatest, api.Refused)},
		{refund(greatest, api.Refused), void(greatest, api.Done), capture(greatest, api.Refused), void(greatest, api.Refused)},
	} {
		b := begin(t, some())
		for _, c := range []call{{"Authorise", 1, "ann", 3}, {"Authorise", greatest, "ann", 2}, {"Authorise", greatest - 1, "ann", 5}, {"Authorise", 1 << 31, "full", 1}} {
			b.do(t, c)
			b.wantSame(t, "authorised")
		}
		for _, x := range way {
			wantVerdicts(t, b.p, []verdict{x})
			b.m.do(x.call)
			b.wantSame(t, x.what)
			if l := b.p.Pays(); len(l) != 4 || l[3].Order != greatest {
				t.Errorf("Pays: %#v", l)
			}
		}
	}
}

func TestTaken(t *testing.T) {
	p := begin(t, []api.Account{account("ann", 10), account("bob", 100), account("c", api.MaxMoney), account("d", api.MaxMoney), account("e", api.MaxMoney)}).p
	want := func(about string, n int) {
		t.Helper()
		for range 2 {
			if got := p.Taken(); got != n {
				t.Errorf("%s: Taken: %d, want %d", about, got, n)
			}
		}
	}
	want("at first", 0)
	wantVerdicts(t, p, []verdict{authorise(1, "ann", 3, api.Done)})
	want("authorised", 0)
	wantVerdicts(t, p, []verdict{capture(1, api.Done)})
	want("captured", 3)
	wantVerdicts(t, p, []verdict{authorise(2, "ann", 2, api.Done), authorise(3, "ann", 4, api.Done), capture(3, api.Done)})
	want("two of one account", 7)
	wantVerdicts(t, p, []verdict{authorise(4, "bob", 50, api.Done), capture(4, api.Done)})
	want("of several accounts", 57)
	wantVerdicts(t, p, []verdict{void(2, api.Done), capture(2, api.Refused)})
	want("let go", 57)
	wantVerdicts(t, p, []verdict{refund(3, api.Done), refund(3, api.Refused), capture(3, api.Refused)})
	want("behind a refund", 53)
	wantVerdicts(t, p, []verdict{authorise(3, "ann", 1, api.Refused), authorise(5, "ann", 7, api.Done), capture(5, api.Done)})
	want("what was refunded is captured for another order", 60)
	for i, name := range []string{"c", "d", "e"} {
		wantVerdicts(t, p, []verdict{authorise(uint32(10+i), name, api.MaxMoney, api.Done), capture(uint32(10+i), api.Done)})
	}
	want("more than 31 bits", 60+3*api.MaxMoney)
	wantVerdicts(t, p, []verdict{refund(1, api.Done), refund(4, api.Done), refund(5, api.Done), refund(10, api.Done), refund(11, api.Done), refund(12, api.Done)})
	want("all refunded", 0)
	wantState(t, "all refunded", p, []api.Account{account("ann", 10), account("bob", 100), account("c", api.MaxMoney), account("d", api.MaxMoney), account("e", api.MaxMoney)}, p.Pays(), 0)
}
