package purse_test

import (
	"runtime"
	"slices"
	"strings"
	"testing"

	"drayage/api"
	"drayage/purse"
)

// spoil writes over a list, and over the room behind it.
func spoil[T any](l []T, with T) {
	l = l[:cap(l)]
	for i := range l {
		l[i] = with
	}
}

func TestNewLeavesItsArgument(t *testing.T) {
	for _, x := range append(ordinary(), broken()...) {
		l := append(slices.Clone(x.l), account("behind", 7))
		before := slices.Clone(l)
		purse.New(l[:len(x.l)])
		if !slices.Equal(l, before) {
			t.Errorf("%s: New made %#v of %#v", x.name, l, before)
		}
	}
}

// The calls of a purse leave the accounts of which it was made as they were.
func TestCallsLeaveTheArgumentOfNew(t *testing.T) {
	l := some()
	p, _ := purse.New(l)
	wantVerdicts(t, p, []verdict{authorise(1, "ann", 7, api.Done), authorise(2, "full", 5, api.Done), capture(1, api.Done), void(2, api.Done), refund(1, api.Done)})
	if !slices.Equal(l, some()) {
		t.Errorf("%#v, want %#v", l, some())
	}
}

func TestNewSharesNoMemory(t *testing.T) {
	for _, x := range ordinary() {
		l := slices.Clone(x.l)
		one, two := begin(t, l), begin(t, l)
		for i, a := range x.l {
			one.do(t, call{"Authorise", uint32(i + 1), a.Name, 1})
		}
		spoil(l, reserved("spoilt", 7, 7))
		one.wantSame(t, x.name)
		two.wantSame(t, x.name)
		for i, a := range x.l {
			two.do(t, call{"Authorise", uint32(i + 1), a.Name, 1})
			two.do(t, call{what: "Capture", order: uint32(i + 1)})
		}
		one.wantSame(t, x.name)
		two.wantSame(t, x.name)
	}
}

// useAll authorises something of each account, and brings the payments into different states.
func useAll(t *testing.T, b both) {
	t.Helper()
	for i, a := range b.m.start {
		order := uint32(i*31%97 + 1)
		b.do(t, call{"Authorise", order, a.Name, a.Money/2 + 1})
		b.do(t, call{what: []string{"Refund", "Capture", "Void"}[i%3], order: order})
	}
}

// Each answer is memory of its own: neither another answer nor the purse changes with it, nor it with them.
func TestAnswersShareNoMemory(t *testing.T) {
	for _, x := range ordinary() {
		b := begin(t, x.l)
		useAll(t, b)
		accounts, pays := b.p.Accounts(), b.p.Pays()
		otherAccounts, otherPays := b.p.Accounts(), b.p.Pays()
		spoil(accounts, reserved("spoilt", 7, 7))
		spoil(pays, pay(7, "spoilt", 7, authorised))
		wasAccounts, wasPays := b.m.accounts(), b.m.sorted()
		if !slices.Equal(otherAccounts, wasAccounts) || !slices.Equal(otherPays, wasPays) {
			t.Errorf("%s: two answers share memory: %#v, %#v", x.name, otherAccounts, otherPays)
		}
		b.wantSame(t, x.name)

		for _, what := range []string{"Capture", "Refund"} {
			for _, m := range wasPays {
				b.do(t, call{what: what, order: m.Order})
			}
			b.wantSame(t, x.name)
		}
		if !slices.Equal(otherAccounts, wasAccounts) || !slices.Equal(otherPays, wasPays) {
			t.Errorf("%s: an answer shares memory with the purse: %#v, %#v", x.name, otherAccounts, otherPays)
		}
	}
}

// What is put behind an answer is in no other one.
func TestAnswersAreExtendedApart(t *testing.T) {
	b := begin(t, some())
	b.do(t, call{"Authorise", 1, "ann", 1})
	accounts, otherAccounts := b.p.Accounts(), b.p.Accounts()
	pays, otherPays := b.p.Pays(), b.p.Pays()
	accounts, otherAccounts = append(accounts, account("x", 1)), append(otherAccounts, account("y", 2))
	pays, otherPays = append(pays, pay(2, "x", 1, captured)), append(otherPays, pay(3, "y", 2, ended))
	if accounts[5] != account("x", 1) || otherAccounts[5] != account("y", 2) || pays[1] != pay(2, "x", 1, captured) || otherPays[1] != pay(3, "y", 2, ended) {
		t.Errorf("%#v, %#v, %#v, %#v", accounts, otherAccounts, pays, otherPays)
	}
	b.wantSame(t, "extended")
}

// What one purse answers can be handed to New; neither knows of the other afterwards.
func TestPurseOfAnAnswer(t *testing.T) {
	one := begin(t, some())
	one.do(t, call{"Authorise", 1, "ann", 4})
	one.do(t, call{what: "Capture", order: 1})
	l := one.p.Accounts()
	two := begin(t, l)
	two.do(t, call{"Authorise", 1, "ann", 6})
	one.do(t, call{what: "Refund", order: 1})
	spoil(l, account("spoilt", 7))
	one.wantSame(t, "the first")
	two.wantSame(t, "the second")
}

// Purses of the same accounts, with the same orders, know nothing of one another.
func TestPursesAreIndependent(t *testing.T) {
	l := some()
	one, two := begin(t, l), begin(t, l)
	for _, c := range []call{{"Authorise", 7, "ann", 3}, {"Authorise", 8, "bob", 1}, {what: "Capture", order: 7}, {what: "Void", order: 8}, {"Authorise", 9, "full", api.MaxMoney}, {what: "Refund", order: 7}} {
		one.do(t, c)
		one.wantSame(t, "used")
		two.wantSame(t, "not used")
	}
	for _, c := range []call{{what: "Void", order: 9}, {what: "Refund", order: 7}, {"Authorise", 7, "ann", 10}, {what: "Capture", order: 7}, {"Authorise", 8, "full", 2}} {
		two.do(t, c)
		one.wantSame(t, "used before")
		two.wantSame(t, "used too")
	}
	third := begin(t, l[:2])
	third.do(t, call{"Authorise", 7, "full", 1})
	third.do(t, call{"Authorise", 7, "bob", 1})
	for _, b := range []both{one, two, third} {
		b.wantSame(t, "in the end")
	}
}

// inUseNow returns how many bytes are in use once the rest was given back.
func inUseNow() uint64 {
	runtime.GC()
	runtime.GC()
	var m runtime.MemStats
	runtime.ReadMemStats(&m)
	return m.HeapAlloc
}

// cut returns a name that is a piece of a text of 1 MiB: who keeps the name keeps all of the text.
func cut(i int) string {
	return strings.Repeat(string(rune('A'+i))+long(31), 1<<15)[:api.MaxKey]
}

func ofCutNames() *purse.Purse {
	var l []api.Account
	for i := range api.MaxGoods {
		l = append(l, account(cut(i), 2))
	}
	p, _ := purse.New(l)
	return p
}

// The texts that come in are not retained: neither those of New, nor those under which is authorised.
func TestTextsAreNotRetained(t *testing.T) {
	before := inUseNow()
	p := ofCutNames()
	want := func(about string) {
		t.Helper()
		if after := inUseNow(); after > before+1<<22 {
			t.Errorf("%s: %d bytes are in use, %d before", about, after, before)
		}
	}
	want("New")
	for i := range api.MaxGoods {
		order := uint32(i + 1)
		wantVerdicts(t, p, []verdict{authorise(order, cut(i), 1, api.Done), authorise(order, cut(i), 1, api.Refused), authorise(order+100, cut(i), 2, api.Refused)})
	}
	want("Authorise")
	for i := range uint32(api.MaxGoods / 2) {
		wantVerdicts(t, p, []verdict{capture(i+1, api.Done), void(i+26, api.Done)})
	}
	want("Capture and Void")
	for i := range uint32(api.MaxGoods / 2) {
		wantVerdicts(t, p, []verdict{refund(i+1, api.Done), authorise(i+1, cut(int(i)), 1, api.Refused)})
	}
	want("Refund")
	accounts, pays := p.Accounts(), p.Pays()
	if len(accounts) != api.MaxGoods || len(pays) != api.MaxGoods {
		t.Errorf("%d accounts, %d payments", len(accounts), len(pays))
	}
	want("Accounts and Pays")
	runtime.KeepAlive(p)
}
