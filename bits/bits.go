// Package bits: numbers in few bytes: see DOC.md, chapter 1.
package bits

import "hourglass/api"

const (
	group   = 7          // bits of a number that one byte holds
	more    = 1 << group // the bit that says that another byte follows
	longest = 10         // bytes that 64 bits need
	wide    = 64         // bits of the widest number
)

// Put writes a number. It never appends to b itself: b's spare room is the
// caller's.
func Put(b []byte, v uint64) []byte {
	out := make([]byte, len(b), len(b)+Len(v))
	copy(out, b)
	for v >= more {
		out = append(out, byte(v)|more)
		v >>= group
	}
	return append(out, byte(v))
}

// Get reads one: how many bytes it has.
func Get(b []byte) (v uint64, n int, err api.Errno) {
	for i := 0; i < len(b) && i < longest; i++ {
		c := b[i]
		v |= uint64(c&(more-1)) << uint(group*i)
		if c < more {
			if !goodEnd(c, i) {
				return 0, 0, api.EFORM
			}
			return v, i + 1, api.OK
		}
	}
	return 0, 0, api.EFORM
}

// goodEnd tells whether c may be a number's last byte, at place i. A 0 there
// could be left out, so that a number would have two forms; and nine bytes
// hold 63 bits, so that the tenth has room for one.
func goodEnd(c byte, i int) bool {
	if i > 0 && c == 0 {
		return false
	}
	return i < longest-1 || c == 1
}

// Zig folds signs in.
func Zig(v int64) uint64 { return uint64(v)<<1 ^ uint64(v>>(wide-1)) }

// Zag unfolds them.
func Zag(v uint64) int64 { return int64(v>>1) ^ -int64(v&1) }

// Sign reads a sign: a signed shift back down copies it.
func Sign(v uint64, bits int) int64 {
	above := spare(bits)
	return int64(v<<above) >> above
}

// Cut takes the lowest bits: is that all?
func Cut(v int64, bits int) (uint64, bool) {
	above := spare(bits)
	low := uint64(v) << above >> above
	return low, Sign(low, bits) == v
}

// spare counts the bits above the lowest ones. It is never below 0, at which
// a shift would panic.
func spare(bits int) uint {
	if bits < 1 || bits > wide {
		return 0
	}
	return uint(wide - bits)
}

// Len counts bytes.
func Len(v uint64) int {
	n := 1
	for v >= more {
		v >>= group
		n++
	}
	return n
}
