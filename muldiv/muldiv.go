// Package muldiv is layer 2: see shared/doc/02-muldiv.md.
package muldiv

import (
	"math"
	"math/bits"

	"turnstone/wide"
)

// Step: a product, divided.
func Step(amount, num, den, rem uint64) (q, r uint64, ok bool) {
	if rem >= den {
		return 0, 0, false
	}
	hi, lo := bits.Mul64(amount, num)
	lo, carry := bits.Add64(lo, rem, 0)
	hi += carry
	// Here the quotient would be 2^64 or more.
	if hi >= den {
		return 0, 0, false
	}
	q, r = bits.Div64(hi, lo, den)
	return q, r, true
}

// Steps: one behind the other.
func Steps(num, den, rem uint64, amounts ...uint64) (q, r uint64, ok bool) {
	if rem >= den {
		return 0, 0, false
	}
	for _, amount := range amounts {
		var step, carry uint64
		if step, rem, ok = Step(amount, num, den, rem); !ok {
			return 0, 0, false
		}
		if q, carry = bits.Add64(q, step, 0); carry != 0 {
			return 0, 0, false
		}
	}
	return q, rem, true
}

// Floor: a wide product, divided.
func Floor(a wide.Int, num, den uint64) (wide.Int, bool) {
	if num > math.MaxInt64 {
		return wide.Int{}, false
	}
	product, ok := a.Mul(int64(num))
	if !ok {
		return wide.Int{}, false
	}
	q, _, ok := product.Div(den)
	return q, ok
}
