package lease_test

import (
	"math"
	"testing"

	"drayage/api"
	"drayage/lease"
)

// edgeLeases returns all leases whose numbers are at the edges, most of them not valid.
func edgeLeases() []api.Lease {
	var all []api.Lease
	for _, epoch := range []uint32{0, 1, 2, greatestEpoch - 1, greatestEpoch} {
		for holder := -1; holder <= 3; holder++ {
			for _, until := range []uint64{0, 1, 20, api.MaxTick, greatestUntil, greatestUntil + 1, greatestTick} {
				for mode := range 4 {
					all = append(all, of(epoch, holder, until, mode))
				}
			}
		}
	}
	return all
}

// ticksAround returns the ticks at which something changes for l with that guard, their neighbours, and the edges of all ticks.
func ticksAround(l api.Lease, guard uint64) []uint64 {
	ticks := []uint64{0, 1, api.MaxTick - 1, api.MaxTick, api.MaxTick + 1, greatestTick}
	for _, n := range []uint64{l.Until, l.Until + guard} {
		ticks = append(ticks, n-1, n, n+1)
	}
	return ticks
}

// wantAsSaid expects of all functions what the chapter says about these arguments.
func wantAsSaid(t *testing.T, l api.Lease, now uint64, who int, epoch uint32, length, guard uint64, mode int) {
	err := api.ErrArg
	if isValid(l) {
		err = api.OK
	}
	wantCheck(t, "as said", l, err)
	wantFree(t, "as said", l, now, guard, freeByTheWords(l, now, guard))
	wantHolds(t, "as said", l, who, now, holdsByTheWords(l, who, now))
	wantGrant(t, "as said", l, now, who, length, guard, grantByTheWords(l, now, who, length, guard))
	wantRenew(t, "as said", l, now, who, epoch, length, renewByTheWords(l, now, who, epoch, length))
	wantTurn(t, "as said", l, now, who, epoch, mode, turnByTheWords(l, now, who, epoch, mode))
}

func TestAllEdges(t *testing.T) {
	lengths := []uint64{0, 1, api.MaxLease, api.MaxLease + 1}
	for _, l := range edgeLeases() {
		for _, guard := range []uint64{0, 2, api.MaxLease, api.MaxLease + 1, math.MaxUint64} {
			for _, now := range ticksAround(l, guard) {
				for who := -1; who <= 3; who++ {
					for i, length := range lengths {
						// The modes 0 to 3 go with the lengths: no function takes both.
						wantAsSaid(t, l, now, who, l.Epoch, length, guard, i)
						wantAsSaid(t, l, now, who, l.Epoch+1, length, guard, i)
					}
				}
			}
		}
	}
}

// A site holds a lease exactly if it can change its mode without changing anything, and as long as somebody holds it, it is not free.
func TestHolderCanAskAndNobodyElse(t *testing.T) {
	for _, l := range edgeLeases() {
		for _, now := range ticksAround(l, 0) {
			anybody := false
			for who := -1; who <= 3; who++ {
				holds := lease.Holds(l, who, now)
				same, err := lease.Turn(l, now, who, l.Epoch, l.Mode)
				if holds != (err == api.OK) || holds && same != l {
					t.Errorf("Holds(%+v, %d, %d): %t, but Turn to its own mode: %+v, %d", l, who, now, holds, same, err)
				}
				if holds && anybody {
					t.Errorf("%+v is held by two sites at %d", l, now)
				}
				anybody = anybody || holds
			}
			if anybody && lease.Free(l, now, 0) {
				t.Errorf("%+v is held and free at %d", l, now)
			}
		}
	}
}

// history is a sequence of leases, of which every one is granted from the one before it.
type history struct {
	now  uint64
	l    api.Lease
	seen []api.Lease // in the last state that each holder has seen: an answer can get lost
	done [4]int      // how many grants, renewals and turns there were, and refusals
}

// show lets the holder of the present lease see its state.
func (h *history) show() {
	if n := len(h.seen); n > 0 && h.seen[n-1].Epoch == h.l.Epoch {
		h.seen[n-1] = h.l
		return
	}
	h.seen = append(h.seen, h.l)
}

func (h *history) grant(t *testing.T, who int, length, guard uint64) bool {
	l, err := lease.Grant(h.l, h.now, who, length, guard)
	if err != api.OK {
		return h.refused(t, l)
	}
	if l.Epoch != h.l.Epoch+1 || l.Epoch == 0 || l.Holder != who || l.Until != h.now+length || l.Mode != h.l.Mode {
		t.Errorf("at %d, for %d ticks: %+v was granted to %d from %+v", h.now, length, l, who, h.l)
	}
	if h.l.Holder != 0 && !longAfter(h.now, h.l.Until, guard) {
		t.Errorf("at %d, with a guard of %d: %+v was granted from %+v", h.now, guard, l, h.l)
	}
	h.done[0]++
	return h.accepted(t, l)
}

func (h *history) renew(t *testing.T, who int, epoch uint32, length uint64) bool {
	l, err := lease.Renew(h.l, h.now, who, epoch, length)
	if err != api.OK {
		return h.refused(t, l)
	}
	want := h.l
	want.Until = max(want.Until, h.now+length)
	if l != want || who != l.Holder || epoch != l.Epoch || h.now > h.l.Until {
		t.Errorf("at %d, for %d ticks: %d was given %+v from %+v", h.now, length, who, l, h.l)
	}
	h.done[1]++
	return h.accepted(t, l)
}

func (h *history) turn(t *testing.T, who int, epoch uint32, mode int) bool {
	l, err := lease.Turn(h.l, h.now, who, epoch, mode)
	if err != api.OK {
		return h.refused(t, l)
	}
	want := h.l
	want.Mode = mode
	if l != want || who != l.Holder || epoch != l.Epoch || h.now > h.l.Until {
		t.Errorf("at %d, to mode %d: %d was given %+v from %+v", h.now, mode, who, l, h.l)
	}
	h.done[2]++
	return h.accepted(t, l)
}

func (h *history) accepted(t *testing.T, l api.Lease) bool {
	wantCheck(t, "accepted", l, api.OK)
	h.l = l
	return true
}

func (h *history) refused(t *testing.T, l api.Lease) bool {
	if l != (api.Lease{}) {
		t.Errorf("beside an error: %+v", l)
	}
	h.done[3]++
	return false
}

// wantOneHolder expects that at the present tick and at any later one at most one lease holds. Between two ends of leases nothing changes.
func (h *history) wantOneHolder(t *testing.T) {
	t.Helper()
	ticks := []uint64{h.now, h.now + 1}
	for _, l := range h.seen {
		if l.Until >= h.now {
			ticks = append(ticks, l.Until, l.Until+1)
		}
	}
	for _, now := range ticks {
		holders := 0
		for _, l := range h.seen {
			if lease.Holds(l, l.Holder, now) {
				holders++
			}
			if lease.Holds(l, 3-l.Holder, now) {
				t.Errorf("at %d: the other site holds %+v", now, l)
			}
		}
		if holders > 1 {
			t.Errorf("%d leases hold at %d, seen at %d: %+v", holders, now, h.now, h.seen)
		}
	}
}

func (h *history) wantRisingEpochs(t *testing.T) {
	t.Helper()
	for i := 1; i < len(h.seen); i++ {
		if h.seen[i-1].Epoch >= h.seen[i].Epoch {
			t.Errorf("epochs do not increase: %+v", h.seen)
		}
	}
}

// beginnings returns where a history can begin: at the first tick, and near the last tick and the last epoch.
func beginnings() []history {
	return []history{
		{l: none()},
		{now: 3, l: of(0, 0, 0, api.ModeSolo)},
		{now: 19, l: held(), seen: []api.Lease{held()}},
		{now: api.MaxTick - 60, l: none()},
		{now: 19, l: of(greatestEpoch-3, 1, 20, api.ModeSolo)},
		{now: api.MaxTick - 9, l: of(greatestEpoch-2, 2, api.MaxTick-8, api.ModeSync)},
	}
}

// play goes on with a history for n asks; draw returns a number from 0 up to less than its argument.
func play(t *testing.T, h history, n int, draw func(n int) int) history {
	t.Helper()
	for range n {
		h.now += uint64(draw(4))
		if draw(40) == 0 {
			h.now += uint64(draw(2 * api.MaxLease))
		}
		who := draw(2) + 1
		length, guard := uint64(1+draw(5)), uint64(draw(4))
		if draw(40) == 0 {
			length, guard = uint64(draw(api.MaxLease+2)), uint64(draw(api.MaxLease+2))
		}
		epoch := h.l.Epoch
		if draw(6) == 0 {
			epoch += uint32(draw(3)) - 1
		}
		var ok bool
		switch draw(3) {
		case 0:
			ok = h.grant(t, who, length, guard)
		case 1:
			ok = h.renew(t, who, epoch, length)
		case 2:
			ok = h.turn(t, who, epoch, draw(4))
		}
		if ok && draw(4) > 0 {
			h.show()
		}
		h.wantOneHolder(t)
	}
	h.wantRisingEpochs(t)
	return h
}

func TestOneHolderInAnyHistory(t *testing.T) {
	r := source()
	var done [4]int
	for range 2000 {
		for _, h := range beginnings() {
			h = play(t, h, 40, r.Intn)
			for i, n := range h.done {
				done[i] += n
			}
			if t.Failed() {
				t.FailNow()
			}
		}
	}
	for i, n := range done {
		if n < 9000 {
			t.Errorf("%v grants, renewals, turns and refusals: too few of kind %d to tell", done, i)
		}
	}
}

// Nobody is granted a lease behind the last tick or the last epoch, so histories come to an end, and the last lease ends too.
func TestHistoriesEnd(t *testing.T) {
	h := history{l: of(greatestEpoch-1, 1, 20, api.ModeSync), now: 21}
	if !h.grant(t, 2, 5, 0) || h.l.Epoch != greatestEpoch {
		t.Fatalf("the last epoch was not granted: %+v", h.l)
	}
	for h.now = 22; h.now < 60; h.now++ {
		wantGrant(t, "behind the last epoch", h.l, h.now, 1, 5, 0, answer{err: api.ErrOver})
		wantHolds(t, "the last epoch", h.l, 2, h.now, h.now <= 26)
	}
	h = history{l: held(), now: api.MaxTick}
	if !h.grant(t, 2, api.MaxLease, api.MaxLease) || h.l.Until != greatestUntil {
		t.Fatalf("the longest lease was not granted: %+v", h.l)
	}
	for h.now = api.MaxTick + 1; h.now < greatestUntil+9; h.now++ {
		wantGrant(t, "behind the last tick", h.l, h.now, 1, 5, 0, answer{err: api.ErrOver})
		wantRenew(t, "behind the last tick", h.l, h.now, 2, 8, 5, answer{err: api.ErrOver})
		wantHolds(t, "behind the last tick", h.l, 2, h.now, h.now <= greatestUntil)
	}
}

func FuzzAsks(f *testing.F) {
	f.Add(uint32(0), 0, uint64(0), 1, uint64(10), 1, uint32(0), uint64(5), uint64(2), 2)
	f.Add(uint32(7), 1, uint64(20), 1, uint64(20), 1, uint32(7), uint64(5), uint64(2), 2)
	f.Add(uint32(7), 1, uint64(20), 2, uint64(23), 2, uint32(7), uint64(5), uint64(2), 3)
	f.Add(uint32(greatestEpoch), 2, uint64(greatestUntil), 2, uint64(api.MaxTick+1), 2, uint32(greatestEpoch), uint64(api.MaxLease), uint64(api.MaxLease), 0)
	f.Add(uint32(7), 3, uint64(greatestTick), 3, uint64(greatestTick), 3, uint32(8), uint64(math.MaxUint64), uint64(math.MaxUint64), -1)
	f.Fuzz(func(t *testing.T, leaseEpoch uint32, holder int, until uint64, leaseMode int, now uint64, who int, epoch uint32, length, guard uint64, mode int) {
		l := of(leaseEpoch, holder, until, leaseMode)
		wantAsSaid(t, l, now, who, epoch, length, guard, mode)
		// Numbers that are drawn apart rarely meet one another's edges.
		for _, now := range append(ticksAround(l, guard), now) {
			wantAsSaid(t, l, now, holder, leaseEpoch, length, guard, mode)
			wantAsSaid(t, l, now, holder, epoch, length%(api.MaxLease+2), guard%(api.MaxLease+2), leaseMode)
		}
	})
}

func FuzzHistory(f *testing.F) {
	f.Add(uint8(0), []byte("a grant, and what comes behind it"))
	f.Add(uint8(5), []byte{0, 1, 1, 4, 0, 1, 1, 0, 3, 9, 1, 0, 2, 2})
	f.Fuzz(func(t *testing.T, beginning uint8, b []byte) {
		all := beginnings()
		at := 0
		draw := func(n int) int {
			if at+1 >= len(b) {
				return 0
			}
			at += 2
			return (int(b[at-2]) | int(b[at-1])<<8) % n
		}
		play(t, all[int(beginning)%len(all)], min(len(b)/12+1, 60), draw)
	})
}
