// Package imm: numbers in instructions. See doc/01-imm.md.
//
// Numbers for which a promise has no place are refused (P9): zero values answer them.
package imm

import "math"

// The bounds that P101 and P102 name.
const (
	maxFill  = 1
	maxScale = 3
	maxByte  = 255

	maxBits = 40

	highBits  = 4
	midBits   = 5
	lowBits   = 11
	splitBits = highBits + midBits + lowBits
)

func Sci8(v int) (f, scale, ui int, is bool) {
	w := word(v)
	if w.signed() != v {
		return 0, 0, 0, false
	}
	return first(w.reads)
}

func Back(f, scale, ui int) int {
	if !upTo(f, maxFill) || !upTo(scale, maxScale) || !upTo(ui, maxByte) {
		return 0
	}
	place := 8 * scale
	others := filled(f) &^ (maxByte << place)
	return (others | word(ui)<<place).signed()
}

func Split(v int) (high, mid, low int) {
	if !Fits(v, splitBits) {
		return 0, 0, 0
	}
	part := word(v).part
	return part(lowBits+midBits, highBits), part(lowBits, midBits), part(0, lowBits)
}

func Joined(high, mid, low int) int {
	if !upTo(high, 1<<highBits-1) || !upTo(mid, 1<<midBits-1) || !upTo(low, 1<<lowBits-1) {
		return 0
	}
	return Sign(high<<(lowBits+midBits)|mid<<lowBits|low, splitBits)
}

func Fits(v, bits int) bool {
	if !rightBits(bits) {
		return false
	}
	// A float tells this exactly: the edges are powers of two, and a v that is rounded is beyond 2^53 and stays there.
	edge := math.Ldexp(1, bits-1)
	x := float64(v)
	return -edge <= x && x < edge
}

func Sign(v, bits int) int {
	if !rightBits(bits) {
		return 0
	}
	// Shifted to the top and back, the highest of the bits is the one that Go repeats as the sign.
	above := 64 - bits
	return int(int64(v) << above >> above)
}

func rightBits(bits int) bool { return 1 <= bits && bits <= maxBits }

func upTo(n, most int) bool { return 0 <= n && n <= most }
