package lease_test

import (
	"math"
	"math/rand"
	"testing"

	"drayage/api"
	"drayage/lease"
)

// source gives the same numbers in every run, so that a failure can be repeated.
func source() *rand.Rand { return rand.New(rand.NewSource(7)) }

const (
	greatestTick  = math.MaxUint64
	greatestEpoch = math.MaxUint32
	greatestUntil = api.MaxTick + api.MaxLease
)

func of(epoch uint32, holder int, until uint64, mode int) api.Lease {
	return api.Lease{Epoch: epoch, Holder: holder, Until: until, Mode: mode}
}

// none is the lease that nobody holds.
func none() api.Lease { return of(0, 0, 0, api.ModeSync) }

// held is valid: site 1 holds it in epoch 7 up to tick 20.
func held() api.Lease { return of(7, 1, 20, api.ModeSync) }

type sample struct {
	name string
	l    api.Lease
}

func validLeases() []sample {
	return []sample{
		{"nobody's, sync", of(0, 0, 0, api.ModeSync)},
		{"nobody's, solo", of(0, 0, 0, api.ModeSolo)},
		{"of site 1", of(7, 1, 20, api.ModeSync)},
		{"of site 2", of(7, 2, 20, api.ModeSync)},
		{"solo", of(7, 1, 20, api.ModeSolo)},
		{"of the first epoch", of(1, 2, 20, api.ModeSolo)},
		{"of the last epoch but one", of(greatestEpoch-1, 1, 20, api.ModeSync)},
		{"of the last epoch", of(greatestEpoch, 1, 20, api.ModeSync)},
		{"until 0", of(7, 1, 0, api.ModeSync)},
		{"until 1", of(7, 1, 1, api.ModeSync)},
		{"until the last tick", of(7, 1, api.MaxTick, api.ModeSync)},
		{"behind the last tick", of(7, 2, api.MaxTick+1, api.ModeSync)},
		{"the longest but one tick", of(7, 2, greatestUntil-1, api.ModeSync)},
		{"the longest", of(7, 2, greatestUntil, api.ModeSync)},
		{"the last and longest", of(greatestEpoch, 2, greatestUntil, api.ModeSolo)},
	}
}

// otherLeases returns leases that are not valid, most of them with one fault.
func otherLeases() []sample {
	return []sample{
		{"the zero lease", api.Lease{}},

		{"Holder -1", of(7, -1, 20, api.ModeSync)},
		{"Holder 3", of(7, 3, 20, api.ModeSync)},
		{"Holder 4", of(7, 4, 20, api.ModeSync)},
		{"the least Holder", of(7, math.MinInt, 20, api.ModeSync)},
		{"the greatest Holder", of(7, math.MaxInt, 20, api.ModeSync)},
		{"a Holder that is 1 in its lower half", of(7, 1<<32+1, 20, api.ModeSync)},
		{"Holder -1 and nothing else", of(0, -1, 0, api.ModeSync)},
		{"Holder 3 and nothing else", of(0, 3, 0, api.ModeSync)},

		{"Mode 0", of(7, 1, 20, 0)},
		{"Mode 3", of(7, 1, 20, 3)},
		{"Mode -1", of(7, 1, 20, -1)},
		{"the least Mode", of(7, 1, 20, math.MinInt)},
		{"the greatest Mode", of(7, 1, 20, math.MaxInt)},
		{"a Mode that is 1 in its lower half", of(7, 1, 20, 1<<32+1)},
		{"nobody's, Mode 0", of(0, 0, 0, 0)},
		{"nobody's, Mode 3", of(0, 0, 0, 3)},

		{"longer than the longest", of(7, 1, greatestUntil+1, api.ModeSync)},
		{"much longer than the longest", of(7, 2, 1<<63, api.ModeSync)},
		{"the greatest Until", of(7, 2, greatestTick, api.ModeSync)},

		{"nobody's, with an Epoch", of(1, 0, 0, api.ModeSync)},
		{"nobody's, with the greatest Epoch", of(greatestEpoch, 0, 0, api.ModeSync)},
		{"nobody's, with an Until", of(0, 0, 1, api.ModeSync)},
		{"nobody's, with the longest Until", of(0, 0, greatestUntil, api.ModeSync)},
		{"nobody's, with both", of(7, 0, 20, api.ModeSolo)},
		{"site 1, without an Epoch", of(0, 1, 20, api.ModeSync)},
		{"site 2, without an Epoch", of(0, 2, 20, api.ModeSolo)},
		{"site 1, with nothing", of(0, 1, 0, api.ModeSync)},
	}
}

// is tells whether n is one of l.
func is(n int, l ...int) bool {
	for _, m := range l {
		if n == m {
			return true
		}
	}
	return false
}

func isValid(l api.Lease) bool {
	if !is(l.Holder, 0, 1, 2) || !is(l.Mode, api.ModeSync, api.ModeSolo) {
		return false
	}
	if l.Until > api.MaxTick && l.Until-api.MaxTick > api.MaxLease {
		return false
	}
	if l.Holder == 0 {
		return l == none() || l == of(0, 0, 0, api.ModeSolo)
	}
	return l.Epoch > 0
}

// longAfter tells whether now is greater than until + guard, without a sum that could wrap round.
func longAfter(now, until, guard uint64) bool { return now > until && now-until > guard }

func freeByTheWords(l api.Lease, now, guard uint64) bool {
	return isValid(l) && guard <= api.MaxLease && (l.Holder == 0 || longAfter(now, l.Until, guard))
}

func holdsByTheWords(l api.Lease, who int, now uint64) bool {
	return isValid(l) && is(who, 1, 2) && is(who, l.Holder) && !longAfter(now, l.Until, 0)
}

// fault is an error, and whether it applies.
type fault struct {
	applies bool
	err     api.Errno
}

// first returns the first error that applies.
func first(faults ...fault) api.Errno {
	for _, f := range faults {
		if f.applies {
			return f.err
		}
	}
	return api.OK
}

// answer is what a call answers: an error alone, or a lease.
type answer struct {
	l   api.Lease
	err api.Errno
}

func granted(l api.Lease, err api.Errno) answer {
	if err != api.OK {
		return answer{err: err}
	}
	return answer{l: l}
}

func grantByTheWords(l api.Lease, now uint64, who int, length, guard uint64) answer {
	err := first(
		fault{!isValid(l), api.ErrArg},
		fault{!is(who, 1, 2), api.ErrArg},
		fault{length < 1, api.ErrArg},
		fault{length > api.MaxLease, api.ErrArg},
		fault{guard > api.MaxLease, api.ErrArg},
		fault{now > api.MaxTick, api.ErrOver},
		fault{l.Epoch == greatestEpoch, api.ErrOver},
		fault{!freeByTheWords(l, now, guard), api.ErrHeld},
	)
	return granted(of(l.Epoch+1, who, now+length, l.Mode), err)
}

func renewByTheWords(l api.Lease, now uint64, who int, epoch uint32, length uint64) answer {
	err := first(
		fault{!isValid(l), api.ErrArg},
		fault{!is(who, 1, 2), api.ErrArg},
		fault{length < 1, api.ErrArg},
		fault{length > api.MaxLease, api.ErrArg},
		fault{now > api.MaxTick, api.ErrOver},
		fault{l.Holder != who, api.ErrStale},
		fault{l.Epoch != epoch, api.ErrStale},
		fault{now > l.Until, api.ErrLate},
	)
	until := l.Until
	if now+length > until {
		until = now + length
	}
	return granted(of(l.Epoch, l.Holder, until, l.Mode), err)
}

func turnByTheWords(l api.Lease, now uint64, who int, epoch uint32, mode int) answer {
	err := first(
		fault{!isValid(l), api.ErrArg},
		fault{!is(who, 1, 2), api.ErrArg},
		fault{!is(mode, api.ModeSync, api.ModeSolo), api.ErrArg},
		fault{l.Holder != who, api.ErrStale},
		fault{l.Epoch != epoch, api.ErrStale},
		fault{now > l.Until, api.ErrLate},
	)
	return granted(of(l.Epoch, l.Holder, l.Until, mode), err)
}

func wantCheck(t *testing.T, name string, l api.Lease, want api.Errno) {
	if err := lease.Check(l); err != want {
		t.Helper()
		t.Errorf("%s: Check(%+v): %d, want %d", name, l, err, want)
	}
}

func wantFree(t *testing.T, name string, l api.Lease, now, guard uint64, want bool) {
	if got := lease.Free(l, now, guard); got != want {
		t.Helper()
		t.Errorf("%s: Free(%+v, %d, %d): %t, want %t", name, l, now, guard, got, want)
	}
}

func wantHolds(t *testing.T, name string, l api.Lease, who int, now uint64, want bool) {
	if got := lease.Holds(l, who, now); got != want {
		t.Helper()
		t.Errorf("%s: Holds(%+v, %d, %d): %t, want %t", name, l, who, now, got, want)
	}
}

func wantGrant(t *testing.T, name string, l api.Lease, now uint64, who int, length, guard uint64, want answer) {
	if got, err := lease.Grant(l, now, who, length, guard); (answer{got, err}) != want {
		t.Helper()
		t.Errorf("%s: Grant(%+v, %d, %d, %d, %d): %+v, %d, want %+v, %d", name, l, now, who, length, guard, got, err, want.l, want.err)
	}
}

func wantRenew(t *testing.T, name string, l api.Lease, now uint64, who int, epoch uint32, length uint64, want answer) {
	if got, err := lease.Renew(l, now, who, epoch, length); (answer{got, err}) != want {
		t.Helper()
		t.Errorf("%s: Renew(%+v, %d, %d, %d, %d): %+v, %d, want %+v, %d", name, l, now, who, epoch, length, got, err, want.l, want.err)
	}
}

func wantTurn(t *testing.T, name string, l api.Lease, now uint64, who int, epoch uint32, mode int, want answer) {
	if got, err := lease.Turn(l, now, who, epoch, mode); (answer{got, err}) != want {
		t.Helper()
		t.Errorf("%s: Turn(%+v, %d, %d, %d, %d): %+v, %d, want %+v, %d", name, l, now, who, epoch, mode, got, err, want.l, want.err)
	}
}
