package core

import (
	"math"
	"testing"

	"turnstone/api"
	"turnstone/wide"
)

// No core comes so far in any time, so it is put there by hand.
func TestP18_1WhatWasCarriedIsAtMostTheGreatestNumber(t *testing.T) {
	greatest := wide.Int{Hi: math.MaxInt64, Lo: math.MaxUint64}
	c := New(0)
	c.carried = wide.Int{Hi: math.MaxInt64, Lo: math.MaxUint64 - 5}
	for i, wanted := range []uint64{math.MaxUint64 - 3, math.MaxUint64 - 1, math.MaxUint64, math.MaxUint64} {
		_, e := c.Join(i+1, 1, 5, 0)
		if got := c.Carried(); e != api.OK || got.Hi != math.MaxInt64 || got.Lo != wanted {
			t.Errorf("behind %d joins there was carried %v, %d", i+1, got, e)
		}
	}
	c.carried = wide.Of(0)
	c.carry(wide.Int{Hi: math.MinInt64})
	if got := c.Carried(); got != greatest {
		t.Errorf("of the least lag there was carried %v", got)
	}
}
