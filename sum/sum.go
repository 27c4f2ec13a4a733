// Package sum is layer 1: see shared/doc/01-sum.md.
package sum

// ones is both the greatest word and the number by which sums are taken.
const ones = 65535

// Part is the one's complement sum of bytes, folded.
func Part(b []byte) uint16 {
	// 64 bits hold the plain sum of every string within the document's bound, so that one fold at the end is enough.
	var plain uint64
	for ; len(b) >= 2; b = b[2:] {
		plain += uint64(b[0])<<8 + uint64(b[1])
	}
	if len(b) == 1 {
		plain += uint64(b[0]) << 8
	}
	return fold(plain)
}

// Of is the Internet checksum of bytes.
func Of(b []byte) uint16 { return ones - Part(b) }

// Add is the one's complement sum of two.
func Add(a, b uint16) uint16 { return fold(uint64(a) + uint64(b)) }

// Join is the Part of n bytes, whose Part is a, and of bytes behind them, whose Part is b.
func Join(a uint16, n int, b uint16) uint16 {
	// Not n%2 == 1: the rest of an odd n below 0 is -1.
	if n%2 != 0 {
		b = b<<8 | b>>8
	}
	return Add(a, b)
}

// Patch is the checksum behind a word's change.
func Patch(s, was, now uint16) uint16 {
	return ones - Add(Add(ones-s, ones-was), now)
}

// fold takes a plain sum to the word that stands for its rest: 0 stands for the plain sum 0 alone, and ones for every other one with the rest 0.
func fold(plain uint64) uint16 {
	if plain == 0 {
		return 0
	}
	return uint16((plain-1)%ones + 1)
}
