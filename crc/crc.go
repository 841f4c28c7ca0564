// Package crc is layer 1: sums of bytes: see shared/doc/01-crc.md.
package crc

import "stillage/api"

const (
	start    = 0xFFFF  // the sum of no bytes
	poly     = 0x1021  // x^12 + x^5 + 1: what x^16 leaves
	xToThe8  = 0x100   // a roll by one byte is a product with it
	longRoll = 1 << 40 // the greatest n of Roll and Join
	longList = 4000    // bytes: so many stay below the 32767 bits at which two places get alike
)

// Step: by a byte.
func Step(c uint16, b byte) uint16 {
	c ^= uint16(b) << 8
	for range 8 {
		c = shift(c)
	}
	return c
}

// Sum: of bytes.
func Sum(b []byte) uint16 {
	c := uint16(start)
	for _, v := range b {
		c = Step(c, v)
	}
	return c
}

// Roll: by n bytes 0.
func Roll(c uint16, n int) (uint16, api.Errno) {
	if n < 0 || n > longRoll {
		return 0, api.ErrRange
	}
	// n may be far too great for single steps: squares of the factor take one round a bit of n.
	factor := uint16(xToThe8)
	for ; n > 0; n >>= 1 {
		if n&1 == 1 {
			c = product(c, factor)
		}
		factor = product(factor, factor)
	}
	return c, api.OK
}

// Join: of two lists.
func Join(a, b uint16, n int) (uint16, api.Errno) {
	// The second sum began at start, not at a: since steps are linear, only the difference of the two has to be rolled.
	c, e := Roll(a^start, n)
	if e != api.OK {
		return 0, e
	}
	return c ^ b, api.OK
}

// Find: the bit that is turned.
func Find(b []byte, sum uint16) (int, api.Errno) {
	if len(b) > longList {
		return 0, api.ErrRange
	}
	change := Sum(b) ^ sum
	if change == 0 {
		return -1, api.OK
	}
	// Since steps are linear, what a turned bit changes in the sum hangs on its distance from the end alone.
	turned := Step(0, 1)
	for at := 8*len(b) - 1; at >= 0; at-- {
		if turned == change {
			return at, api.OK
		}
		turned = shift(turned)
	}
	return -1, api.ErrNone
}

// shift moves c one bit to the left, which is its product with x.
func shift(c uint16) uint16 {
	if c&0x8000 != 0 {
		return c<<1 ^ poly
	}
	return c << 1
}

// product of two sums, as polynomials.
func product(a, b uint16) uint16 {
	p := uint16(0)
	for ; b != 0; b >>= 1 {
		if b&1 == 1 {
			p ^= a
		}
		a = shift(a)
	}
	return p
}
