package sum

// A change tells what becomes of a register while some number of bytes 0 is processed: element i is what becomes of bit i alone. Registers are the XOR of their bits, and bytes 0 keep that so, which is why 32 numbers tell it of all registers.
type change [32]uint32

// afterZeros returns what becomes of r while n bytes 0 are processed.
func afterZeros(r uint32, n uint64) uint32 {
	// The changes of 1, 2, 4, 8 bytes, of which those that make up n are applied: n may be far too great to go byte by byte.
	for c := oneZero(); n != 0; n >>= 1 {
		if n&1 == 1 {
			r = c.of(r)
		}
		c = c.squared()
	}
	return r
}

// oneZero returns the change by one byte 0.
func oneZero() change {
	var c change
	for i := range 32 {
		c[i] = step(1 << i)
	}
	return c
}

// of returns what the change makes of r.
func (c change) of(r uint32) uint32 {
	sum := uint32(0)
	for i, n := range c {
		if r>>i&1 == 1 {
			sum ^= n
		}
	}
	return sum
}

// squared returns the change that c makes when it is applied twice.
func (c change) squared() change {
	var twice change
	for i, n := range c {
		twice[i] = c.of(n)
	}
	return twice
}
