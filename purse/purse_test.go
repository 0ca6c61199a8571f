package purse_test

import (
	"math"
	"slices"
	"testing"

	"drayage/api"
	"drayage/purse"
)

// The chapter's example.
func TestExample(t *testing.T) {
	p := begin(t, []api.Account{account("ann", 10)}).p
	wantVerdicts(t, p, []verdict{authorise(1, "ann", 7, api.Done), authorise(2, "ann", 4, api.Refused)})
	wantState(t, "authorised", p, []api.Account{reserved("ann", 10, 7)}, []api.Pay{pay(1, "ann", 7, authorised)}, 0)
	wantVerdicts(t, p, []verdict{capture(1, api.Done)})
	wantState(t, "captured", p, []api.Account{account("ann", 3)}, []api.Pay{pay(1, "ann", 7, captured)}, 7)
	wantVerdicts(t, p, []verdict{refund(1, api.Done)})
	wantState(t, "refunded", p, []api.Account{account("ann", 10)}, []api.Pay{pay(1, "ann", 7, ended)}, 0)
	wantVerdicts(t, p, []verdict{refund(1, api.Refused), authorise(1, "ann", 1, api.Refused)})
	wantState(t, "refused", p, []api.Account{account("ann", 10)}, []api.Pay{pay(1, "ann", 7, ended)}, 0)
}

func TestNew(t *testing.T) {
	for _, x := range ordinary() {
		b := begin(t, x.l)
		b.wantSame(t, x.name)
		if got := b.p.Accounts(); len(got) != len(x.l) {
			t.Errorf("%s: %d accounts, want %d", x.name, len(got), len(x.l))
		}
		if got := b.p.Pays(); len(got) != 0 {
			t.Errorf("%s: payments: %#v", x.name, got)
		}
	}
}

func TestNewErrors(t *testing.T) {
	for _, x := range broken() {
		if p, err := purse.New(x.l); p != nil || err != api.ErrArg {
			t.Errorf("%s: New of %d accounts: %#v, %d, want nil, %d", x.name, len(x.l), p, err, api.ErrArg)
		}
	}
}

// All that New could be handed of two accounts, by the chapter's words.
func TestNewOfTwo(t *testing.T) {
	names := []string{"", "a", "b", "ab", long(api.MaxKey), long(api.MaxKey + 1)}
	isName := func(s string) bool { return s != names[0] && s != names[5] }
	isMoney := func(n int) bool { return n == 0 || n == 1 || n == api.MaxMoney }
	var all []api.Account
	for _, name := range names {
		for _, n := range []int{-1, 0, 1, api.MaxMoney, api.MaxMoney + 1} {
			for _, held := range []int{-1, 0, 1} {
				all = append(all, reserved(name, n, held))
			}
		}
	}
	isRight := func(a api.Account) bool { return isName(a.Name) && isMoney(a.Money) && a.Held == 0 }
	for _, a := range all {
		for _, b := range all {
			l := []api.Account{a, b}
			if isRight(a) && isRight(b) && a.Name != b.Name {
				begin(t, l).wantSame(t, "two accounts")
			} else if p, err := purse.New(l); p != nil || err != api.ErrArg {
				t.Errorf("New of %#v: %#v, %d", l, p, err)
			}
		}
	}
}

// A purse that was not made leaves nothing behind.
func TestNewAfterErrors(t *testing.T) {
	for _, x := range broken() {
		purse.New(x.l)
		begin(t, some()).wantSame(t, x.name)
	}
}

func TestAccountsAreSortedByName(t *testing.T) {
	for _, x := range []sample{
		{"one begins another", []api.Account{account("a", 1), account("a\x00", 2), account("aa", 3), account("ab", 4), account("abc", 5), account("b", 6)}},
		{"any bytes", []api.Account{account("\x00", 1), account("\x00\x00", 2), account("\x7f", 3), account("\x80", 4), account("\xc3\xa9", 5), account("\xff", 6), account("\xff\x00", 7)}},
		{"letters by their bytes", []api.Account{account("10", 1), account("9", 2), account("A", 3), account("Z", 4), account("a", 5), account("z", 6), account("é", 7)}},
		{"the money says nothing", []api.Account{account("a", 9), account("b", 7), account("c", 8), account("d", 0)}},
		{"the longest", []api.Account{account(long(30), 1), account(long(31), 2), account(long(31)+"w", 3), account(long(32), 4), account("y", 5)}},
	} {
		wantSortedFromAnyOrder(t, x)
	}
}

func wantSortedFromAnyOrder(t *testing.T, x sample) {
	t.Helper()
	r := source()
	for range 200 {
		l := slices.Clone(x.l)
		r.Shuffle(len(l), func(i, j int) { l[i], l[j] = l[j], l[i] })
		if got := begin(t, l).p.Accounts(); !slices.Equal(got, x.l) {
			t.Errorf("%s: New of %#v: Accounts: %#v, want %#v", x.name, l, got, x.l)
		}
	}
	l := slices.Clone(x.l)
	slices.Reverse(l)
	if got := begin(t, l).p.Accounts(); !slices.Equal(got, x.l) {
		t.Errorf("%s: New of %#v: Accounts: %#v, want %#v", x.name, l, got, x.l)
	}
}

// The same calls get the same answers, whatever way the maps are gone through.
func TestAnswersAreTheSameEachTime(t *testing.T) {
	b := begin(t, many(api.MaxGoods))
	for i := range uint32(40) {
		order := i*7919%101 + 1
		b.do(t, call{"Authorise", order, b.m.start[i].Name, int(i*i/2 + 1)})
		b.do(t, call{what: []string{"Refund", "Capture", "Void", "Capture"}[i%4], order: order})
	}
	for range 200 {
		b.wantSame(t, "again")
		if t.Failed() {
			return
		}
	}
}

func TestEmptyPurse(t *testing.T) {
	for _, l := range [][]api.Account{nil, {}, make([]api.Account, 0, 3), some()[:0]} {
		b := begin(t, l)
		for range 2 {
			wantVerdicts(t, b.p, []verdict{authorise(1, "ann", 1, api.Refused), authorise(1, "", 1, api.Refused), authorise(0, "", 0, api.Refused)})
			for _, order := range []uint32{0, 1, greatest} {
				wantVerdicts(t, b.p, []verdict{capture(order, api.Refused), void(order, api.Refused), refund(order, api.Refused)})
			}
			wantState(t, "empty", b.p, nil, nil, 0)
		}
	}
}

func TestNil(t *testing.T) {
	var p *purse.Purse
	wantAnswersOfNil(t, p)
}

// Beside an error the purse is nil, and answers as nil does.
func TestPurseBesideAnError(t *testing.T) {
	p, _ := purse.New([]api.Account{account("ann", 10), account("ann", 10)})
	wantAnswersOfNil(t, p)
}

func wantAnswersOfNil(t *testing.T, p *purse.Purse) {
	t.Helper()
	for range 2 {
		wantVerdicts(t, p, []verdict{authorise(1, "ann", 1, api.Refused), authorise(0, "", 0, api.Refused), authorise(greatest, long(1<<16), math.MinInt, api.Refused), authorise(1, "ann", math.MaxInt, api.Refused)})
		for _, order := range []uint32{0, 1, greatest} {
			wantVerdicts(t, p, []verdict{capture(order, api.Refused), void(order, api.Refused), refund(order, api.Refused)})
		}
		wantState(t, "nil", p, nil, nil, 0)
	}
}

func FuzzNew(f *testing.F) {
	f.Add([]byte("ann\x05bob\x01"), uint8(3), 5, 0)
	f.Add([]byte("aaaa"), uint8(2), api.MaxMoney, 0)
	f.Add([]byte("abab"), uint8(32), 0, 1)
	f.Fuzz(func(t *testing.T, names []byte, size uint8, n, held int) {
		var l []api.Account
		isRight := n >= 0 && n <= api.MaxMoney && held == 0
		for name := range slices.Chunk(names, max(int(size), 1)) {
			isTwice := slices.ContainsFunc(l, func(a api.Account) bool { return a.Name == string(name) })
			isRight = isRight && !isTwice && len(name) <= api.MaxKey
			l = append(l, reserved(string(name), n, held))
		}
		p, err := purse.New(l)
		switch isRight = isRight && len(l) <= api.MaxGoods || len(l) == 0; {
		case isRight:
			begin(t, l).wantSame(t, "fuzzed")
		case p != nil || err != api.ErrArg:
			t.Errorf("New of %#v: %#v, %d", l, p, err)
		}
	})
}
