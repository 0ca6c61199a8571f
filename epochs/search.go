package epochs

import (
	"cmp"
	"math"
	"slices"

	"drayage/api"
)

// begunAt returns how many starts of the table t have an Lsn that is not greater than lsn.
func begunAt(t []api.Start, lsn uint64) int {
	n, found := slices.BinarySearchFunc(t, lsn, compareLsn)
	if found {
		n++
	}
	return n
}

// upTo returns how many starts of the table t have an Epoch that is not greater than epoch.
func upTo(t []api.Start, epoch uint32) int {
	n, found := slices.BinarySearchFunc(t, epoch, compareEpoch)
	if found {
		n++
	}
	return n
}

func compareLsn(s api.Start, lsn uint64) int { return cmp.Compare(s.Lsn, lsn) }

func compareEpoch(s api.Start, epoch uint32) int { return cmp.Compare(s.Epoch, epoch) }

// aheadOf returns the number of the entry ahead of the start at place n. If there is no such start, the epoch does not end, and so the greatest number bounds nothing.
func aheadOf(t []api.Start, n int) uint64 {
	if n == len(t) {
		return math.MaxUint64
	}
	return t[n].Lsn - 1
}

// common returns how many starts, from the first on, are the same in a and b.
func common(a, b []api.Start) int {
	shorter := min(len(a), len(b))
	for i := range shorter {
		if a[i] != b[i] {
			return i
		}
	}
	return shorter
}
