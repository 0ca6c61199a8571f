package lease_test

import (
	"math"
	"testing"

	"drayage/api"
)

func TestGrant(t *testing.T) {
	for _, x := range []struct {
		name   string
		l      api.Lease
		now    uint64
		who    int
		length uint64
		guard  uint64
		want   api.Lease
	}{
		{"the first, at 0", none(), 0, 1, 5, 2, of(1, 1, 5, api.ModeSync)},
		{"the first, site 2", none(), 10, 2, 5, 2, of(1, 2, 15, api.ModeSync)},
		{"the first, solo", of(0, 0, 0, api.ModeSolo), 10, 1, 5, 2, of(1, 1, 15, api.ModeSolo)},
		{"the first, the greatest guard", none(), 0, 1, 5, api.MaxLease, of(1, 1, 5, api.ModeSync)},
		{"the shortest", none(), 10, 1, 1, 2, of(1, 1, 11, api.ModeSync)},
		{"the longest", none(), 10, 1, api.MaxLease, 2, of(1, 1, 10+api.MaxLease, api.ModeSync)},
		{"the longest, at MaxTick", none(), api.MaxTick, 2, api.MaxLease, 0, of(1, 2, greatestUntil, api.ModeSync)},

		{"to the other site", held(), 23, 2, 5, 2, of(8, 2, 28, api.ModeSync)},
		{"to the same site", held(), 23, 1, 5, 2, of(8, 1, 28, api.ModeSync)},
		{"to the other site, solo", of(7, 1, 20, api.ModeSolo), 23, 2, 5, 2, of(8, 2, 28, api.ModeSolo)},
		{"to the same site, solo", of(7, 1, 20, api.ModeSolo), 23, 1, 5, 2, of(8, 1, 28, api.ModeSolo)},
		{"after site 2's", of(7, 2, 20, api.ModeSync), 23, 1, 5, 2, of(8, 1, 28, api.ModeSync)},
		{"no guard", held(), 21, 2, 5, 0, of(8, 2, 26, api.ModeSync)},
		{"the greatest guard", held(), 21 + api.MaxLease, 2, 5, api.MaxLease, of(8, 2, 26+api.MaxLease, api.ModeSync)},
		{"much later", held(), 1 << 40, 2, 5, 2, of(8, 2, 1<<40+5, api.ModeSync)},
		{"at MaxTick", held(), api.MaxTick, 2, 5, 2, of(8, 2, api.MaxTick+5, api.ModeSync)},
		{"at MaxTick, the longest", held(), api.MaxTick, 2, api.MaxLease, api.MaxLease, of(8, 2, greatestUntil, api.ModeSync)},
		{"at MaxTick, after one until the tick before", of(7, 1, api.MaxTick-1, api.ModeSync), api.MaxTick, 2, 1, 0, of(8, 2, api.MaxTick+1, api.ModeSync)},
		{"the last epoch", of(greatestEpoch-1, 1, 20, api.ModeSync), 23, 2, 5, 2, of(greatestEpoch, 2, 28, api.ModeSync)},
	} {
		wantGrant(t, x.name, x.l, x.now, x.who, x.length, x.guard, answer{l: x.want})
	}
}

func TestGrantErrors(t *testing.T) {
	last := of(greatestEpoch, 1, 20, api.ModeSync)
	for _, x := range []struct {
		name   string
		l      api.Lease
		now    uint64
		who    int
		length uint64
		guard  uint64
		want   api.Errno
	}{
		{"not valid", of(7, 1, 20, 0), 23, 2, 5, 2, api.ErrArg},
		{"site 0", none(), 10, 0, 5, 2, api.ErrArg},
		{"site 3", none(), 10, 3, 5, 2, api.ErrArg},
		{"site -1", none(), 10, -1, 5, 2, api.ErrArg},
		{"the least site", none(), 10, math.MinInt, 5, 2, api.ErrArg},
		{"the greatest site", none(), 10, math.MaxInt, 5, 2, api.ErrArg},
		{"a site that is 1 in its lower half", none(), 10, 1<<32 + 1, 5, 2, api.ErrArg},
		{"length 0", none(), 10, 1, 0, 2, api.ErrArg},
		{"length MaxLease + 1", none(), 10, 1, api.MaxLease + 1, 2, api.ErrArg},
		{"the greatest length", none(), 10, 1, math.MaxUint64, 2, api.ErrArg},
		{"guard MaxLease + 1", none(), 10, 1, 5, api.MaxLease + 1, api.ErrArg},
		{"the greatest guard", none(), 10, 1, 5, math.MaxUint64, api.ErrArg},
		{"guard MaxLease + 1, long after", held(), api.MaxTick, 1, 5, api.MaxLease + 1, api.ErrArg},

		{"nobody's, MaxTick + 1", none(), api.MaxTick + 1, 1, 5, 2, api.ErrOver},
		{"nobody's, the greatest tick", none(), greatestTick, 1, 5, 2, api.ErrOver},
		{"MaxTick + 1", held(), api.MaxTick + 1, 2, 5, 2, api.ErrOver},
		{"the greatest tick", held(), greatestTick, 2, 5, 2, api.ErrOver},
		{"the last epoch", last, 23, 2, 5, 2, api.ErrOver},
		{"the last epoch, the same site", last, 23, 1, 5, 2, api.ErrOver},

		{"at 0", held(), 0, 2, 5, 2, api.ErrHeld},
		{"before Until", held(), 19, 2, 5, 2, api.ErrHeld},
		{"at Until", held(), 20, 2, 5, 2, api.ErrHeld},
		{"at Until + guard", held(), 22, 2, 5, 2, api.ErrHeld},
		{"at Until + guard, the same site", held(), 22, 1, 5, 2, api.ErrHeld},
		{"at Until, no guard", held(), 20, 2, 5, 0, api.ErrHeld},
		{"at Until + guard, the greatest guard", held(), 20 + api.MaxLease, 2, 5, api.MaxLease, api.ErrHeld},
		{"at MaxTick, before Until", of(7, 1, greatestUntil, api.ModeSync), api.MaxTick, 2, 5, 2, api.ErrHeld},
		{"the last epoch but one", of(greatestEpoch-1, 1, 20, api.ModeSync), 22, 2, 5, 2, api.ErrHeld},

		{"not valid, and over", of(7, 3, 20, api.ModeSync), api.MaxTick + 1, 2, 5, 2, api.ErrArg},
		{"not valid, and held", of(7, 1, 20, 3), 10, 2, 5, 2, api.ErrArg},
		{"not valid, with the last epoch", of(greatestEpoch, 0, 0, api.ModeSync), 10, 2, 5, 2, api.ErrArg},
		{"a wrong site, and over", none(), api.MaxTick + 1, 3, 5, 2, api.ErrArg},
		{"a wrong site, and the last epoch", last, 23, 0, 5, 2, api.ErrArg},
		{"a wrong site, and held", held(), 22, 0, 5, 2, api.ErrArg},
		{"a wrong length, and over", none(), api.MaxTick + 1, 1, 0, 2, api.ErrArg},
		{"a wrong length, and the last epoch", last, 23, 1, api.MaxLease + 1, 2, api.ErrArg},
		{"a wrong length, and held", held(), 22, 2, api.MaxLease + 1, 2, api.ErrArg},
		{"a wrong guard, and over", none(), api.MaxTick + 1, 1, 5, api.MaxLease + 1, api.ErrArg},
		{"a wrong guard, and the last epoch", last, 23, 1, 5, api.MaxLease + 1, api.ErrArg},
		{"a wrong guard, and held", held(), 20, 2, 5, api.MaxLease + 1, api.ErrArg},
		{"over, and held", of(7, 1, greatestUntil, api.ModeSync), api.MaxTick + 1, 2, 5, 2, api.ErrOver},
		{"the last epoch, and held", last, 20, 2, 5, 2, api.ErrOver},
		{"the last epoch, and over", last, api.MaxTick + 1, 2, 5, 2, api.ErrOver},
	} {
		wantGrant(t, x.name, x.l, x.now, x.who, x.length, x.guard, answer{err: x.want})
	}
}

func TestRenew(t *testing.T) {
	for _, x := range []struct {
		name   string
		l      api.Lease
		now    uint64
		who    int
		length uint64
		until  uint64
	}{
		{"further by a tick", held(), 16, 1, 5, 21},
		{"at Until", held(), 20, 1, 5, 25},
		{"at Until, the shortest", held(), 20, 1, 1, 21},
		{"at Until, the longest", held(), 20, 1, api.MaxLease, 20 + api.MaxLease},
		{"at 0, the longest", held(), 0, 1, api.MaxLease, api.MaxLease},
		{"to the same tick", held(), 15, 1, 5, 20},
		{"not shorter by a tick", held(), 14, 1, 5, 20},
		{"not shorter", held(), 0, 1, 1, 20},
		{"of site 2", of(7, 2, 20, api.ModeSync), 18, 2, 5, 23},
		{"solo", of(7, 2, 20, api.ModeSolo), 18, 2, 5, 23},
		{"of the first epoch", of(1, 1, 20, api.ModeSync), 18, 1, 5, 23},
		{"of the last epoch", of(greatestEpoch, 1, 20, api.ModeSync), 18, 1, 5, 23},
		{"until 0, at 0", of(7, 1, 0, api.ModeSync), 0, 1, 5, 5},
		{"at MaxTick", of(7, 1, api.MaxTick, api.ModeSync), api.MaxTick, 1, api.MaxLease, greatestUntil},
		{"the longest, not shorter", of(7, 1, greatestUntil, api.ModeSync), api.MaxTick, 1, 5, greatestUntil},
		{"the longest, as long", of(7, 1, greatestUntil, api.ModeSync), api.MaxTick, 1, api.MaxLease, greatestUntil},
	} {
		want := answer{l: of(x.l.Epoch, x.l.Holder, x.until, x.l.Mode)}
		wantRenew(t, x.name, x.l, x.now, x.who, x.l.Epoch, x.length, want)
	}
}

func TestRenewErrors(t *testing.T) {
	longest := of(7, 1, greatestUntil, api.ModeSync)
	for _, x := range []struct {
		name   string
		l      api.Lease
		now    uint64
		who    int
		epoch  uint32
		length uint64
		want   api.Errno
	}{
		{"not valid", of(7, 1, 20, 0), 10, 1, 7, 5, api.ErrArg},
		{"site 0", held(), 10, 0, 7, 5, api.ErrArg},
		{"site 3", held(), 10, 3, 7, 5, api.ErrArg},
		{"site -1", held(), 10, -1, 7, 5, api.ErrArg},
		{"nobody's, site 0", none(), 0, 0, 0, 5, api.ErrArg},
		{"length 0", held(), 10, 1, 7, 0, api.ErrArg},
		{"length MaxLease + 1", held(), 10, 1, 7, api.MaxLease + 1, api.ErrArg},
		{"the greatest length", held(), 10, 1, 7, math.MaxUint64, api.ErrArg},

		{"MaxTick + 1", longest, api.MaxTick + 1, 1, 7, 5, api.ErrOver},
		{"at the end of the longest", longest, greatestUntil, 1, 7, 5, api.ErrOver},

		{"the other site", held(), 10, 2, 7, 5, api.ErrStale},
		{"the other site, of site 2's", of(7, 2, 20, api.ModeSync), 10, 1, 7, 5, api.ErrStale},
		{"the epoch before", held(), 10, 1, 6, 5, api.ErrStale},
		{"the next epoch", held(), 10, 1, 8, 5, api.ErrStale},
		{"epoch 0", held(), 10, 1, 0, 5, api.ErrStale},
		{"the greatest epoch", held(), 10, 1, greatestEpoch, 5, api.ErrStale},
		{"the other site and another epoch", held(), 10, 2, 8, 5, api.ErrStale},
		{"nobody's", none(), 0, 1, 0, 5, api.ErrStale},
		{"nobody's, with an epoch", none(), 0, 2, 1, 5, api.ErrStale},

		{"behind Until", held(), 21, 1, 7, 5, api.ErrLate},
		{"at MaxTick", held(), api.MaxTick, 1, 7, 5, api.ErrLate},
		{"until 0, at 1", of(7, 1, 0, api.ModeSync), 1, 1, 7, 5, api.ErrLate},

		{"not valid, and over", of(7, 1, 20, 3), api.MaxTick + 1, 1, 7, 5, api.ErrArg},
		{"not valid, and stale", of(7, 1, 20, 3), 10, 2, 7, 5, api.ErrArg},
		{"not valid, and late", of(7, 1, 20, 3), 21, 1, 7, 5, api.ErrArg},
		{"a wrong site, and over", longest, api.MaxTick + 1, 3, 7, 5, api.ErrArg},
		{"a wrong site, and another epoch", held(), 10, 3, 8, 5, api.ErrArg},
		{"a wrong site, and late", held(), 21, 0, 7, 5, api.ErrArg},
		{"a wrong length, and over", longest, api.MaxTick + 1, 1, 7, 0, api.ErrArg},
		{"a wrong length, and stale", held(), 10, 2, 7, 0, api.ErrArg},
		{"a wrong length, and late", held(), 21, 1, 7, api.MaxLease + 1, api.ErrArg},
		{"over, and the other site", longest, api.MaxTick + 1, 2, 7, 5, api.ErrOver},
		{"over, and another epoch", longest, api.MaxTick + 1, 1, 8, 5, api.ErrOver},
		{"over, and nobody's", none(), api.MaxTick + 1, 1, 0, 5, api.ErrOver},
		{"over, and late", held(), api.MaxTick + 1, 1, 7, 5, api.ErrOver},
		{"the greatest tick, and late", held(), greatestTick, 1, 7, 5, api.ErrOver},
		{"the other site, and late", held(), 21, 2, 7, 5, api.ErrStale},
		{"another epoch, and late", held(), 21, 1, 6, 5, api.ErrStale},
		{"nobody's, and late", none(), 1, 1, 0, 5, api.ErrStale},
	} {
		wantRenew(t, x.name, x.l, x.now, x.who, x.epoch, x.length, answer{err: x.want})
	}
}

func TestTurn(t *testing.T) {
	for _, mode := range []int{api.ModeSync, api.ModeSolo} {
		for _, before := range []int{api.ModeSync, api.ModeSolo} {
			for _, x := range []struct {
				name  string
				epoch uint32
				who   int
				until uint64
				now   uint64
			}{
				{"at 0", 7, 1, 20, 0},
				{"before Until", 7, 1, 20, 19},
				{"at Until", 7, 1, 20, 20},
				{"of site 2", 7, 2, 20, 20},
				{"until 0", 7, 1, 0, 0},
				{"of the first epoch", 1, 2, 20, 10},
				{"of the last epoch", greatestEpoch, 2, 20, 10},
				{"at MaxTick", 7, 1, api.MaxTick, api.MaxTick},
				{"behind MaxTick", 7, 1, greatestUntil, api.MaxTick + 1},
				{"at the end of the longest", 7, 1, greatestUntil, greatestUntil},
			} {
				l := of(x.epoch, x.who, x.until, before)
				wantTurn(t, x.name, l, x.now, x.who, x.epoch, mode, answer{l: of(x.epoch, x.who, x.until, mode)})
			}
		}
	}
}

func TestTurnErrors(t *testing.T) {
	for _, x := range []struct {
		name  string
		l     api.Lease
		now   uint64
		who   int
		epoch uint32
		mode  int
		want  api.Errno
	}{
		{"not valid", of(7, 1, 20, 0), 10, 1, 7, api.ModeSolo, api.ErrArg},
		{"site 0", held(), 10, 0, 7, api.ModeSolo, api.ErrArg},
		{"site 3", held(), 10, 3, 7, api.ModeSolo, api.ErrArg},
		{"site -1", held(), 10, -1, 7, api.ModeSolo, api.ErrArg},
		{"nobody's, site 0", none(), 0, 0, 0, api.ModeSolo, api.ErrArg},
		{"mode 0", held(), 10, 1, 7, 0, api.ErrArg},
		{"mode 3", held(), 10, 1, 7, 3, api.ErrArg},
		{"mode -1", held(), 10, 1, 7, -1, api.ErrArg},
		{"the least mode", held(), 10, 1, 7, math.MinInt, api.ErrArg},
		{"the greatest mode", held(), 10, 1, 7, math.MaxInt, api.ErrArg},
		{"a mode that is 2 in its lower half", held(), 10, 1, 7, 1<<32 + 2, api.ErrArg},

		{"the other site", held(), 10, 2, 7, api.ModeSolo, api.ErrStale},
		{"the other site, of site 2's", of(7, 2, 20, api.ModeSync), 10, 1, 7, api.ModeSolo, api.ErrStale},
		{"the epoch before", held(), 10, 1, 6, api.ModeSolo, api.ErrStale},
		{"the next epoch", held(), 10, 1, 8, api.ModeSolo, api.ErrStale},
		{"epoch 0", held(), 10, 1, 0, api.ModeSolo, api.ErrStale},
		{"the other site and another epoch", held(), 10, 2, 8, api.ModeSolo, api.ErrStale},
		{"the other site, the same mode", held(), 10, 2, 7, api.ModeSync, api.ErrStale},
		{"nobody's", none(), 0, 1, 0, api.ModeSolo, api.ErrStale},

		{"behind Until", held(), 21, 1, 7, api.ModeSolo, api.ErrLate},
		{"behind Until, the same mode", held(), 21, 1, 7, api.ModeSync, api.ErrLate},
		{"until 0, at 1", of(7, 1, 0, api.ModeSync), 1, 1, 7, api.ModeSolo, api.ErrLate},
		{"at MaxTick", held(), api.MaxTick, 1, 7, api.ModeSolo, api.ErrLate},
		{"behind MaxTick", held(), api.MaxTick + 1, 1, 7, api.ModeSolo, api.ErrLate},
		{"behind the end of the longest", of(7, 1, greatestUntil, api.ModeSync), greatestUntil + 1, 1, 7, api.ModeSolo, api.ErrLate},
		{"the greatest tick", held(), greatestTick, 1, 7, api.ModeSolo, api.ErrLate},

		{"not valid, and stale", of(7, 1, 20, 3), 10, 2, 7, api.ModeSolo, api.ErrArg},
		{"not valid, and late", of(7, 1, 20, 3), 21, 1, 7, api.ModeSolo, api.ErrArg},
		{"a wrong site, and another epoch", held(), 10, 3, 8, api.ModeSolo, api.ErrArg},
		{"a wrong site, and late", held(), 21, 0, 7, api.ModeSolo, api.ErrArg},
		{"a wrong mode, and the other site", held(), 10, 2, 7, 0, api.ErrArg},
		{"a wrong mode, and another epoch", held(), 10, 1, 8, 3, api.ErrArg},
		{"a wrong mode, and nobody's", none(), 0, 1, 0, 3, api.ErrArg},
		{"a wrong mode, and late", held(), 21, 1, 7, 3, api.ErrArg},
		{"the other site, and late", held(), 21, 2, 7, api.ModeSolo, api.ErrStale},
		{"another epoch, and late", held(), 21, 1, 6, api.ModeSolo, api.ErrStale},
		{"the other site, behind MaxTick", held(), api.MaxTick + 1, 2, 7, api.ModeSolo, api.ErrStale},
		{"nobody's, and late", none(), greatestTick, 1, 0, api.ModeSolo, api.ErrStale},
	} {
		wantTurn(t, x.name, x.l, x.now, x.who, x.epoch, x.mode, answer{err: x.want})
	}
}
