// Package nat is layer 1: numbers from 0 on, of any length, as limbs of 64
// bits, the lowest first. What it answers has no nought on top, and is memory
// of its own. See shared/doc/01-nat.md.
package nat

import (
	"cmp"
	"iter"
	"math/bits"
)

const limbBits = 64

// Trim answers a without noughts on top: a copy, so that what becomes of the
// answer is not seen in a.
func Trim(a []uint64) []uint64 {
	return append([]uint64(nil), a[:height(a)]...)
}

// Compare answers -1, 0 or 1: a is less than b, the same, or more.
func Compare(a, b []uint64) int {
	order := 0
	for x, y := range sideBySide(a, b) {
		// A higher limb outweighs all below it, and is met later.
		if c := cmp.Compare(x, y); c != 0 {
			order = c
		}
	}
	return order
}

// Add answers the sum of a and b.
func Add(a, b []uint64) []uint64 {
	return addCarry(a, b, 0)
}

// Sub answers a less b, and true; nothing and false, if b is more than a.
func Sub(a, b []uint64) ([]uint64, bool) {
	rest := make([]uint64, 0, max(len(a), len(b)))
	var borrow uint64
	for x, y := range sideBySide(a, b) {
		var limb uint64
		limb, borrow = bits.Sub64(x, y, borrow)
		rest = append(rest, limb)
	}
	// A borrow that no limb is left to pay for: below 0.
	if borrow != 0 {
		return nil, false
	}
	return rest[:height(rest)], true
}

// Bits answers how many bits a has: 0 of 0.
func Bits(a []uint64) int {
	n := height(a)
	if n == 0 {
		return 0
	}
	return limbBits*(n-1) + bits.Len64(a[n-1])
}

// Bit answers the i-th bit of a, the lowest one being 0: 0 below that, and
// above all.
func Bit(a []uint64, i int) int {
	// A shift by a number below 0 would panic.
	if i < 0 {
		return 0
	}
	return int(limbAt(a, i/limbBits) >> (i % limbBits) & 1)
}

// Double answers twice a, and the lowest bit of bit.
func Double(a []uint64, bit int) []uint64 {
	return addCarry(a, a, uint64(bit)&1)
}

// addCarry answers the sum of a, b and carry, which is 0 or 1.
func addCarry(a, b []uint64, carry uint64) []uint64 {
	sum := make([]uint64, 0, max(len(a), len(b))+1)
	for x, y := range sideBySide(a, b) {
		var limb uint64
		limb, carry = bits.Add64(x, y, carry)
		sum = append(sum, limb)
	}
	sum = append(sum, carry)
	return sum[:height(sum)]
}

// sideBySide goes through the limbs of two numbers, the lowest first, as if
// the shorter one had noughts on top.
func sideBySide[L any](a, b []L) iter.Seq2[L, L] {
	return func(yield func(L, L) bool) {
		for i := range max(len(a), len(b)) {
			if !yield(limbAt(a, i), limbAt(b, i)) {
				return
			}
		}
	}
}

// limbAt answers the i-th limb of a number, i from 0 on: nought above all.
func limbAt[L any](a []L, i int) L {
	var nought L
	if i < len(a) {
		return a[i]
	}
	return nought
}

// height answers how many limbs a has, noughts on top not counted.
func height(a []uint64) int {
	n := len(a)
	for n > 0 && a[n-1] == 0 {
		n--
	}
	return n
}
