package lease_test

import (
	"math"
	"testing"

	"drayage/api"
	"drayage/lease"
)

// The example of the chapter, call by call.
func TestExample(t *testing.T) {
	wantGrant(t, "at 10", none(), 10, 1, 5, 2, answer{l: of(1, 1, 15, api.ModeSync)})
	wantRenew(t, "at 15", of(1, 1, 15, api.ModeSync), 15, 1, 1, 5, answer{l: of(1, 1, 20, api.ModeSync)})
	l := of(1, 1, 20, api.ModeSync)
	wantRenew(t, "at 21", l, 21, 1, 1, 5, answer{err: api.ErrLate})
	wantGrant(t, "at 22", l, 22, 2, 5, 2, answer{err: api.ErrHeld})
	wantGrant(t, "at 23", l, 23, 2, 5, 2, answer{l: of(2, 2, 28, api.ModeSync)})
}

// The example of the whole: after a lease of 5 ticks granted at 10, with a guard of 2, the next one can be granted at 18.
func TestExampleOfTheWhole(t *testing.T) {
	l, err := lease.Grant(none(), 10, 2, 5, 2)
	if err != api.OK {
		t.Fatalf("Grant: %d", err)
	}
	wantFree(t, "at 17", l, 17, 2, false)
	wantFree(t, "at 18", l, 18, 2, true)
	wantGrant(t, "at 17", l, 17, 1, 5, 2, answer{err: api.ErrHeld})
	wantGrant(t, "at 18", l, 18, 1, 5, 2, answer{l: of(2, 1, 23, api.ModeSync)})
}

func TestCheck(t *testing.T) {
	for _, x := range validLeases() {
		wantCheck(t, x.name, x.l, api.OK)
	}
	for _, x := range otherLeases() {
		wantCheck(t, x.name, x.l, api.ErrArg)
	}
}

// Each number of a lease is tried in a lease that is valid with a holder, and in one without.
func TestCheckOfEachNumber(t *testing.T) {
	for _, x := range []struct {
		n            int
		holder, mode api.Errno
	}{
		{-1, api.ErrArg, api.ErrArg},
		{0, api.ErrArg, api.ErrArg}, // as Holder: nobody's, with an Epoch and an Until
		{1, api.OK, api.OK},
		{2, api.OK, api.OK},
		{3, api.ErrArg, api.ErrArg},
	} {
		wantCheck(t, "Holder", of(7, x.n, 20, api.ModeSync), x.holder)
		wantCheck(t, "Mode", of(7, 1, 20, x.n), x.mode)
		wantCheck(t, "Mode, nobody's", of(0, 0, 0, x.n), x.mode)
	}
	for _, who := range []int{1, 2} {
		wantCheck(t, "MaxTick + MaxLease", of(7, who, api.MaxTick+api.MaxLease, api.ModeSync), api.OK)
		wantCheck(t, "MaxTick + MaxLease + 1", of(7, who, api.MaxTick+api.MaxLease+1, api.ModeSync), api.ErrArg)
		wantCheck(t, "Epoch 0", of(0, who, 20, api.ModeSync), api.ErrArg)
		wantCheck(t, "Epoch 1", of(1, who, 20, api.ModeSync), api.OK)
	}
}

func TestFree(t *testing.T) {
	for _, x := range []struct {
		name       string
		l          api.Lease
		now, guard uint64
		want       bool
	}{
		{"nobody's at 0", none(), 0, 0, true},
		{"nobody's, solo", of(0, 0, 0, api.ModeSolo), 0, 0, true},
		{"nobody's at 0, a guard", none(), 0, 2, true},
		{"nobody's, the greatest guard", none(), 0, api.MaxLease, true},
		{"nobody's, one more", none(), 0, api.MaxLease + 1, false},
		{"nobody's, one more, later", none(), api.MaxTick, api.MaxLease + 1, false},
		{"nobody's, the greatest number as guard", none(), 0, math.MaxUint64, false},
		{"nobody's at MaxTick", none(), api.MaxTick, 2, true},
		{"nobody's behind MaxTick", none(), api.MaxTick + 1, 2, true},
		{"nobody's at the greatest number", none(), greatestTick, 2, true},

		{"at 0", held(), 0, 2, false},
		{"before Until", held(), 19, 2, false},
		{"at Until", held(), 20, 2, false},
		{"behind Until", held(), 21, 2, false},
		{"at Until + guard", held(), 22, 2, false},
		{"behind Until + guard", held(), 23, 2, true},
		{"at MaxTick", held(), api.MaxTick, 2, true},
		{"behind MaxTick", held(), api.MaxTick + 1, 2, true},
		{"at the greatest number", held(), greatestTick, 2, true},

		{"no guard, at Until", held(), 20, 0, false},
		{"no guard, behind Until", held(), 21, 0, true},
		{"the greatest guard, at Until + guard", held(), 20 + api.MaxLease, api.MaxLease, false},
		{"the greatest guard, behind Until + guard", held(), 21 + api.MaxLease, api.MaxLease, true},
		{"one more than the greatest guard", held(), 50 + api.MaxLease, api.MaxLease + 1, false},
		{"one more than the greatest guard, at the greatest number", held(), greatestTick, api.MaxLease + 1, false},
		{"a guard with which the sum would wrap round", held(), 50, math.MaxUint64 - 10, false},
		{"the greatest number as guard", held(), greatestTick, math.MaxUint64, false},

		{"until 0, at 0", of(7, 1, 0, api.ModeSync), 0, 0, false},
		{"until 0, at 1", of(7, 1, 0, api.ModeSync), 1, 0, true},
		{"until MaxTick, at MaxTick", of(7, 1, api.MaxTick, api.ModeSync), api.MaxTick, 0, false},
		{"until MaxTick, behind MaxTick", of(7, 1, api.MaxTick, api.ModeSync), api.MaxTick + 1, 0, true},
		{"the longest, at MaxTick", of(7, 2, greatestUntil, api.ModeSync), api.MaxTick, api.MaxLease, false},
		{"the longest, at Until + guard", of(7, 2, greatestUntil, api.ModeSync), greatestUntil + api.MaxLease, api.MaxLease, false},
		{"the longest, behind Until + guard", of(7, 2, greatestUntil, api.ModeSync), greatestUntil + api.MaxLease + 1, api.MaxLease, true},
		{"the longest, at the greatest number", of(7, 2, greatestUntil, api.ModeSync), greatestTick, api.MaxLease, true},

		{"solo", of(7, 1, 20, api.ModeSolo), 23, 2, true},
		{"the last epoch", of(greatestEpoch, 1, 20, api.ModeSync), 23, 2, true},
	} {
		wantFree(t, x.name, x.l, x.now, x.guard, x.want)
	}
}

func TestHolds(t *testing.T) {
	longest := of(greatestEpoch, 2, greatestUntil, api.ModeSolo)
	for _, x := range []struct {
		name string
		l    api.Lease
		who  int
		now  uint64
		want bool
	}{
		{"at 0", held(), 1, 0, true},
		{"one tick before Until", held(), 1, 19, true},
		{"at Until", held(), 1, 20, true},
		{"one tick behind Until", held(), 1, 21, false},
		{"at MaxTick", held(), 1, api.MaxTick, false},
		{"at the greatest number", held(), 1, greatestTick, false},
		{"the other site", held(), 2, 0, false},
		{"the other site, at Until", held(), 2, 20, false},
		{"site 0", held(), 0, 10, false},
		{"site 3", held(), 3, 10, false},
		{"site -1", held(), -1, 10, false},
		{"a site that is 1 in its lower half", held(), 1<<32 + 1, 10, false},
		{"solo", of(7, 1, 20, api.ModeSolo), 1, 20, true},
		{"of site 2", of(7, 2, 20, api.ModeSync), 2, 20, true},
		{"of site 2, site 1", of(7, 2, 20, api.ModeSync), 1, 20, false},

		{"nobody's, site 0", none(), 0, 0, false},
		{"nobody's, site 1", none(), 1, 0, false},
		{"nobody's, site 2", none(), 2, 0, false},
		{"nobody's, site 3", none(), 3, 0, false},

		{"until 0, at 0", of(7, 1, 0, api.ModeSync), 1, 0, true},
		{"until 0, at 1", of(7, 1, 0, api.ModeSync), 1, 1, false},
		{"the longest, at MaxTick", longest, 2, api.MaxTick, true},
		{"the longest, behind MaxTick", longest, 2, api.MaxTick + 1, true},
		{"the longest, at its end", longest, 2, greatestUntil, true},
		{"the longest, behind its end", longest, 2, greatestUntil + 1, false},
		{"the longest, at the greatest number", longest, 2, greatestTick, false},
	} {
		wantHolds(t, x.name, x.l, x.who, x.now, x.want)
	}
}

// To a lease that is not valid there is one answer, however right or wrong the rest is.
func TestLeasesThatAreNotValid(t *testing.T) {
	wrong := answer{err: api.ErrArg}
	ticks := []uint64{0, 1, 20, 21, 50, api.MaxTick, api.MaxTick + 1, greatestUntil + 1, greatestTick}
	for _, x := range otherLeases() {
		for _, now := range ticks {
			for _, n := range []uint64{0, 1, 2, api.MaxLease, api.MaxLease + 1} {
				wantFree(t, x.name, x.l, now, n, false)
			}
			for _, who := range []int{x.l.Holder, 0, 1, 2, 3} {
				wantHolds(t, x.name, x.l, who, now, false)
				for _, n := range []uint64{1, 5, api.MaxLease, api.MaxLease + 1} {
					wantGrant(t, x.name, x.l, now, who, n, 0, wrong)
					wantGrant(t, x.name, x.l, now, who, 5, n, wrong)
					wantRenew(t, x.name, x.l, now, who, x.l.Epoch, n, wrong)
					wantRenew(t, x.name, x.l, now, who, x.l.Epoch+1, n, wrong)
				}
				for mode := range 4 {
					wantTurn(t, x.name, x.l, now, who, x.l.Epoch, mode, wrong)
					wantTurn(t, x.name, x.l, now, who, x.l.Epoch+1, mode, wrong)
				}
			}
		}
	}
}

// What a call returns is new: the lease that it was given stays as it was, and the call answers the same again.
func TestLeasesAreValues(t *testing.T) {
	l := held()
	for range 2 {
		wantRenew(t, "again", l, 20, 1, 7, 5, answer{l: of(7, 1, 25, api.ModeSync)})
		wantTurn(t, "again", l, 20, 1, 7, api.ModeSolo, answer{l: of(7, 1, 20, api.ModeSolo)})
		wantGrant(t, "again", l, 30, 2, 5, 2, answer{l: of(8, 2, 35, api.ModeSync)})
		if l != held() {
			t.Errorf("the argument was changed: %+v", l)
		}
	}
}
