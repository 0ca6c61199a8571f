package lease

import "drayage/api"

// nobody is the Holder of a lease that was not granted.
const nobody = 0

// lastUntil is the end of the longest lease that can be granted at the last tick.
const lastUntil = api.MaxTick + api.MaxLease

func isSite(who int) bool { return who == 1 || who == 2 }

func isMode(mode int) bool { return mode == api.ModeSync || mode == api.ModeSolo }

func isLength(length uint64) bool { return length >= 1 && length <= api.MaxLease }

// checkHolder returns the error of a request to change the lease l, which only its holder may make, for its epoch and while it is valid.
func checkHolder(l api.Lease, now uint64, who int, epoch uint32) api.Errno {
	if l.Holder != who || l.Epoch != epoch {
		return api.ErrStale
	}
	if now > l.Until {
		return api.ErrLate
	}
	return api.OK
}
