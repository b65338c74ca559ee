// Package parity reckons parities: one bit more, by which a turned bit is told. See doc/01-parity.md.
package parity

// parityBit is the place of the parity, just above the 32 bits of data.
const parityBit = 32

// Of answers 1 if an odd number of n's bits are 1, else 0.
func Of(n uint64) uint64 {
	return uint64(Count(n)) & 1
}

// Put answers n with its parity in bit 32, so that the whole has an even Count.
func Put(n uint32) uint64 {
	data := uint64(n)
	return data | Of(data)<<parityBit
}

// Get answers the lowest 32 bits of w, and whether w is one that Put makes.
// The bits are told beside a false too: the caller may still want what was there.
func Get(w uint64) (uint32, bool) {
	clean := w>>(parityBit+1) == 0
	return uint32(w), clean && Of(w) == 0
}

// Count answers how many bits of n are 1.
// Neighbouring sums are added in fields that double in width, so that the work is the same for every n.
func Count(n uint64) int {
	n = n&0x5555555555555555 + n>>1&0x5555555555555555
	n = n&0x3333333333333333 + n>>2&0x3333333333333333
	n = n&0x0f0f0f0f0f0f0f0f + n>>4&0x0f0f0f0f0f0f0f0f
	n = n&0x00ff00ff00ff00ff + n>>8&0x00ff00ff00ff00ff
	n = n&0x0000ffff0000ffff + n>>16&0x0000ffff0000ffff
	n = n&0x00000000ffffffff + n>>32
	return int(n)
}
