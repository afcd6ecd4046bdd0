// Package wide is layer 1: see shared/doc/01-wide.md.
package wide

import (
	"math"
	"math/bits"
	"strconv"
	"strings"
)

// Int is a whole number of 128 bits.
type Int struct {
	Hi int64
	Lo uint64
}

// Of: a number.
func Of(x int64) Int { return Int{Hi: x >> 63, Lo: uint64(x)} }

// OfU: a number without a sign.
func OfU(x uint64) Int { return Int{Lo: x} }

// Cmp: which is greater.
func (a Int) Cmp(b Int) int {
	switch {
	case a == b:
		return 0
	case a.Hi < b.Hi || a.Hi == b.Hi && a.Lo < b.Lo:
		return -1
	}
	return 1
}

// Sign: on which side of 0.
func (a Int) Sign() int { return a.Cmp(Int{}) }

// Add: a sum.
func (a Int) Add(b Int) (Int, bool) {
	lo, carry := bits.Add64(a.Lo, b.Lo, 0)
	hi, _ := bits.Add64(uint64(a.Hi), uint64(b.Hi), carry)
	sum := Int{Hi: int64(hi), Lo: lo}
	// Only two of the same sign can leave the range, and then the sum's sign turns.
	if (a.Hi < 0) == (b.Hi < 0) && (sum.Hi < 0) != (a.Hi < 0) {
		return Int{}, false
	}
	return sum, true
}

// Neg: as great on the other side.
func (a Int) Neg() (Int, bool) { return Int{}.Sub(a) }

// Sub: a difference.
func (a Int) Sub(b Int) (Int, bool) {
	lo, borrow := bits.Sub64(a.Lo, b.Lo, 0)
	hi, _ := bits.Sub64(uint64(a.Hi), uint64(b.Hi), borrow)
	diff := Int{Hi: int64(hi), Lo: lo}
	// Only two of unlike signs can leave the range, and then the difference's sign turns.
	if (a.Hi < 0) != (b.Hi < 0) && (diff.Hi < 0) != (a.Hi < 0) {
		return Int{}, false
	}
	return diff, true
}

// Mul: a product.
func (a Int) Mul(b int64) (Int, bool) {
	hi, lo := a.size()
	over, low := bits.Mul64(lo, size64(b))
	top, middle := bits.Mul64(hi, size64(b))
	high, carry := bits.Add64(middle, over, 0)
	if top != 0 || carry != 0 {
		return Int{}, false
	}
	return signed((a.Hi < 0) != (b < 0), high, low)
}

// Div: a quotient, and what is left.
func (a Int) Div(b uint64) (Int, uint64, bool) {
	if b == 0 {
		return Int{}, 0, false
	}
	hi, lo := a.size()
	high, over := bits.Div64(0, hi, b)
	low, left := bits.Div64(over, lo, b)
	// Below 0 what is left is wanted from the other side, so the quotient is one further from 0.
	if a.Hi < 0 && left != 0 {
		var carry uint64
		low, carry = bits.Add64(low, 1, 0)
		high += carry
		left = b - left
	}
	q, ok := signed(a.Hi < 0, high, low)
	return q, left, ok
}

// Small: the number in 64 bits.
func (a Int) Small() (int64, bool) {
	small := int64(a.Lo)
	if Of(small) != a {
		return 0, false
	}
	return small, true
}

// String: its digits.
func (a Int) String() string {
	const places = 19
	hi, lo := a.size()
	// hi is at most 2^63, and so below 10^19: the quotient fits.
	ahead, behind := bits.Div64(hi, lo, 1e19)
	text := strconv.FormatUint(behind, 10)
	if ahead != 0 {
		text = strconv.FormatUint(ahead, 10) + strings.Repeat("0", places-len(text)) + text
	}
	if a.Hi < 0 {
		text = "-" + text
	}
	return text
}

// Sum: all together.
func Sum(parts ...Int) (Int, bool) {
	var sum Int
	for _, p := range parts {
		var ok bool
		if sum, ok = sum.Add(p); !ok {
			return Int{}, false
		}
	}
	return sum, true
}

// size is how far a is from 0: at most 2^127, which is no Int.
func (a Int) size() (hi, lo uint64) {
	if a.Hi >= 0 {
		return uint64(a.Hi), a.Lo
	}
	lo, borrow := bits.Sub64(0, a.Lo, 0)
	hi, _ = bits.Sub64(0, uint64(a.Hi), borrow)
	return hi, lo
}

// size64 is how far x is from 0; -2^63 wraps round to what it should be.
func size64(x int64) uint64 {
	if x < 0 {
		return -uint64(x)
	}
	return uint64(x)
}

// signed is the number of that size, above 0 or below it.
func signed(below bool, hi, lo uint64) (Int, bool) {
	if !below {
		if hi > math.MaxInt64 {
			return Int{}, false
		}
		return Int{Hi: int64(hi), Lo: lo}, true
	}
	lo, borrow := bits.Sub64(0, lo, 0)
	hi, _ = bits.Sub64(0, hi, borrow)
	number := Int{Hi: int64(hi), Lo: lo}
	// What isn't 0 must have come out below 0; -2^127 does, all that is further doesn't.
	if number.Hi >= 0 && number != (Int{}) {
		return Int{}, false
	}
	return number, true
}
