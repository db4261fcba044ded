// Package shift is layer 1, numbers as bits and bytes: see shared/doc/01-shift.md.
package shift

import "baton/api"

// Sizes in bits, each twice the one ahead of it.
const (
	nodeBits = 4 << iota
	byteBits
	_
	_
	wordBits
)

// Sizes that follow from these.
const (
	wordBytes = wordBits / byteBits
	sevenBits = byteBits - 1
	lastSeven = wordBits / sevenBits
	lifeBits  = 36
)

// more is the bit by which a byte tells that another seven bits follow.
const more = 1 << sevenBits

// Wide tells the lowest 8 width bits of n as bytes, the highest one first.
func Wide(n uint64, width int) string {
	if width < 0 || width > wordBytes {
		return ""
	}
	b := make([]byte, width)
	for i := width - 1; i >= 0; i-- {
		b[i] = byte(n)
		n >>= byteBits
	}
	return string(b)
}

// Narrow tells the number whose bytes are s, the highest one first.
func Narrow(s string) (uint64, bool) {
	if len(s) > wordBytes {
		return 0, false
	}
	var n uint64
	for _, c := range []byte(s) {
		n = n<<byteBits | uint64(c)
	}
	return n, true
}

// Zig tells numbers on both sides of 0 as numbers above it, small ones as small ones.
func Zig(n int64) uint64 {
	return uint64(n)<<1 ^ uint64(n>>(wordBits-1))
}

// Zag tells the number of which Zig tells u.
func Zag(u uint64) int64 {
	// The lowest bit is carried to all places: it turns them round if n was below 0.
	return int64(u>>1) ^ int64(u<<(wordBits-1))>>(wordBits-1)
}

// Var tells n in sevens of bits, the lowest ones first, as few as it takes.
func Var(n uint64) string {
	var b []byte
	for n >= more {
		b = append(b, byte(n)|more)
		n >>= sevenBits
	}
	return string(append(b, byte(n)))
}

// Read tells the number whose Var stands in s from place at on, and the place behind it.
func Read(s string, at int) (uint64, int, api.Errno) {
	if at < 0 || at > len(s) {
		return 0, 0, api.ErrArg
	}
	var n uint64
	// No bound is needed: the last seven that a word has room for is wrong, or ends the number.
	for i := 0; ; i++ {
		if at == len(s) {
			return 0, 0, api.ErrCut
		}
		c := s[at]
		if i == lastSeven && c > 1 || i > 0 && c == 0 {
			return 0, 0, api.ErrForm
		}
		n |= Low(uint64(c), sevenBits) << (i * sevenBits)
		at++
		if c < more {
			return n, at, api.OK
		}
	}
}

// Low tells the k lowest bits of n.
func Low(n uint64, k int) uint64 {
	if k < 0 {
		return 0
	}
	if k > wordBits {
		return n
	}
	rest := wordBits - k
	return n << rest >> rest
}

// Sign tells the number that the k lowest bits of n are, the highest one of these being worth its weight below 0.
func Sign(n uint64, k int) int64 {
	if k < 1 || k > wordBits {
		return 0
	}
	rest := wordBits - k
	return int64(n<<rest) >> rest
}

// Who tells a node and how often it was started as one number.
func Who(node int, life int) int {
	if !fits(node, nodeBits) || !fits(life, lifeBits) {
		return -1
	}
	return life<<nodeBits | node
}

// Whose tells the node and the life of which Who tells who.
func Whose(who int) (int, int) {
	if !fits(who, nodeBits+lifeBits) {
		return -1, -1
	}
	return int(Low(uint64(who), nodeBits)), who >> nodeBits
}

// fits tells whether n is 0 or above, and has no more than that many bits.
func fits(n int, bits int) bool {
	// A number below 0 is shifted to -1, never to 0.
	return n>>bits == 0
}
