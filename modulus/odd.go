package modulus

import (
	"math/bits"

	"lodge/nat"
)

// odd is an odd number with Montgomery's products: what a product leaves is
// found limb by limb from below, without a division. To that end a number is
// lifted: it stands for itself times 2 to the power of all bits of the odd
// number's limbs. Lifted numbers have as many limbs as the odd one, and need
// not be less than it.
type odd struct {
	limbs   []uint64
	inverse uint64
}

// oddPower answers what a to the power of e leaves of m, which is odd.
func oddPower(a, e, m []uint64) []uint64 {
	limbs := nat.Trim(m)
	by := odd{limbs, inverseOf(limbs[0])}
	one := []uint64{1}
	power := raise(by.lift(one), by.lift(a), e, by.times)
	// Times 1 that is not lifted, it is not lifted any more either.
	rest, _ := Rest(by.times(power, by.fill(one)), limbs)
	return rest
}

// lift answers a as it stands among lifted numbers.
func (o odd) lift(a []uint64) []uint64 {
	above := append(make([]uint64, len(o.limbs)), a...)
	rest, _ := Rest(above, o.limbs)
	return o.fill(rest)
}

// fill answers a, which is no longer than the odd number, with noughts on top
// up to its length.
func (o odd) fill(a []uint64) []uint64 {
	filled := make([]uint64, len(o.limbs))
	copy(filled, a)
	return filled
}

// times answers the product of two lifted numbers, lifted.
func (o odd) times(x, y []uint64) []uint64 {
	length := len(o.limbs)
	sum := make([]uint64, 2*length)
	var carry uint64
	for i, limb := range x {
		// The odd number is added as many times as makes the lowest limb
		// nought: that changes nothing of what is left, and takes a limb off.
		first := addTimes(sum[i:], y, limb)
		second := addTimes(sum[i:], o.limbs, -sum[i]*o.inverse)
		var over uint64
		first, over = bits.Add64(first, second, 0)
		sum[i+length], carry = bits.Add64(first, 0, carry)
		carry += over
	}
	high := sum[length:]
	// The sum is less than y and the odd number together: taken off once, what
	// is left has no more limbs than these.
	if carry != 0 {
		takeOff(high, o.limbs)
	}
	return high
}

// addTimes adds x times b to the lowest limbs of sum, as many as b has, and
// answers what is carried out of them.
func addTimes(sum, b []uint64, x uint64) uint64 {
	var carry uint64
	for i, y := range b {
		high, low := bits.Mul64(x, y)
		low, c := bits.Add64(low, sum[i], 0)
		high += c
		sum[i], c = bits.Add64(low, carry, 0)
		// A product of two limbs and two limbs more fit in two limbs.
		carry = high + c
	}
	return carry
}

// takeOff takes b from a, which has as many limbs; what would be below 0 goes
// round.
func takeOff(a, b []uint64) {
	var borrow uint64
	for i, y := range b {
		a[i], borrow = bits.Sub64(a[i], y, borrow)
	}
}

// inverseOf answers the limb that, times an odd one, has 1 as its lowest limb.
func inverseOf(limb uint64) uint64 {
	// Each odd limb is its own inverse in the lowest 3 bits, and each round
	// makes twice as many bits right: 6, 12, 24, 48, 96.
	inverse := limb
	for range 5 {
		inverse *= 2 - limb*inverse
	}
	return inverse
}
