package muldiv_test

import (
	"math"
	"math/big"
	"slices"
	"testing"

	"turnstone/muldiv"
	"turnstone/wide"
)

const most = math.MaxUint64

// words: the edges, and some numbers without any pattern.
func words() []uint64 {
	return []uint64{0, 1, 2, 3, 7, 1<<32 - 1, 1 << 32, 1<<63 - 1, 1 << 63, 1<<63 + 1, most - 1, most, 88172645463325252, 12297829382473034411}
}

func number(x uint64) *big.Int { return new(big.Int).SetUint64(x) }

func value(a wide.Int) *big.Int {
	v := new(big.Int).Lsh(big.NewInt(a.Hi), 64)
	return v.Add(v, number(a.Lo))
}

// step is what the document says of one, by numbers without bounds.
func step(amount, num, den, rem uint64) (q, r uint64, ok bool) {
	if den == 0 || rem >= den {
		return 0, 0, false
	}
	product := new(big.Int).Mul(number(amount), number(num))
	whole, left := new(big.Int).DivMod(product.Add(product, number(rem)), number(den), new(big.Int))
	if !whole.IsUint64() {
		return 0, 0, false
	}
	return whole.Uint64(), left.Uint64(), true
}

func TestP2_1Step(t *testing.T) {
	for _, amount := range words() {
		for _, num := range words() {
			for _, den := range words() {
				for _, rem := range append(words(), den-1) {
					q, r, ok := muldiv.Step(amount, num, den, rem)
					wq, wr, is := step(amount, num, den, rem)
					if q != wq || r != wr || ok != is {
						t.Fatalf("Step(%d, %d, %d, %d): %d, %d, %v, wanted %d, %d, %v", amount, num, den, rem, q, r, ok, wq, wr, is)
					}
				}
			}
		}
	}
}

func TestP2_1StepEdges(t *testing.T) {
	for _, c := range []struct {
		amount, num, den, rem, q, r uint64
		ok                          bool
	}{
		{3, 5, 4, 1, 4, 0, true},
		{0, 0, 1, 0, 0, 0, true},
		{1, 1, 0, 0, 0, 0, false},
		{0, 0, 0, 0, 0, 0, false},
		{1, 1, 2, 1, 1, 0, true},
		{1, 1, 2, 2, 0, 0, false},
		{most, most, most, most - 1, most, most - 1, true},
		// The remainder alone brings the quotient to 2^64.
		{1 << 63, 2, 1, 0, 0, 0, false},
		{most, 3, 3, 2, most, 2, true},
		{6148914691236517205, 6, 2, 1, most, 1, true},
		{1 << 63, 4, 2, 0, 0, 0, false},
	} {
		if q, r, ok := muldiv.Step(c.amount, c.num, c.den, c.rem); q != c.q || r != c.r || ok != c.ok {
			t.Errorf("%+v: %d, %d, %v", c, q, r, ok)
		}
	}
}

// steps is what the document says of several, by numbers without bounds.
func steps(num, den, rem uint64, amounts []uint64) (q, r uint64, ok bool) {
	if den == 0 || rem >= den {
		return 0, 0, false
	}
	all := new(big.Int)
	for _, amount := range amounts {
		one, left, ok := step(amount, num, den, rem)
		if !ok {
			return 0, 0, false
		}
		all.Add(all, number(one))
		rem = left
	}
	if !all.IsUint64() {
		return 0, 0, false
	}
	return all.Uint64(), rem, true
}

func TestP2_2Steps(t *testing.T) {
	for _, num := range words() {
		for _, den := range words() {
			for _, rem := range []uint64{0, 1, den / 2, den - 1, den} {
				for i, amount := range words() {
					amounts := []uint64{amount, words()[(i+3)%len(words())], words()[(i+5)%len(words())]}
					for n := range len(amounts) + 1 {
						q, r, ok := muldiv.Steps(num, den, rem, amounts[:n]...)
						wq, wr, is := steps(num, den, rem, amounts[:n])
						if q != wq || r != wr || ok != is {
							t.Fatalf("Steps(%d, %d, %d, %v): %d, %d, %v, wanted %d, %d, %v", num, den, rem, amounts[:n], q, r, ok, wq, wr, is)
						}
					}
				}
			}
		}
	}
}

func TestP2_2StepsEdges(t *testing.T) {
	for _, c := range []struct {
		num, den, rem uint64
		amounts       []uint64
		q, r          uint64
		ok            bool
	}{
		{1, 3, 0, []uint64{1, 1, 1}, 1, 0, true},
		{1, 3, 2, nil, 0, 2, true},
		{1, 0, 0, nil, 0, 0, false},
		{1, 3, 3, nil, 0, 0, false},
		{1, 3, 3, []uint64{1}, 0, 0, false},
		{0, 1, 0, []uint64{most, most}, 0, 0, true},
		// All together they reach 2^64 - 1, and then 2^64.
		{1, 1, 0, []uint64{1 << 63, 1<<63 - 1}, most, 0, true},
		{1, 1, 0, []uint64{1 << 63, 1 << 63}, 0, 0, false},
		{1, 1, 0, []uint64{most, 0}, most, 0, true},
		{1, 1, 0, []uint64{most, 1}, 0, 0, false},
		// What is left brings it there.
		{1, 2, 1, []uint64{most, most - 1}, most, 0, true},
		// One quotient alone is too great, the last one too.
		{2, 1, 0, []uint64{1, 1 << 63}, 0, 0, false},
	} {
		if q, r, ok := muldiv.Steps(c.num, c.den, c.rem, c.amounts...); q != c.q || r != c.r || ok != c.ok {
			t.Errorf("%+v: %d, %d, %v", c, q, r, ok)
		}
	}
}

func TestStepsLeavesItsAmounts(t *testing.T) {
	room := []uint64{1, 2, 3, 4}
	kept := slices.Clone(room)
	muldiv.Steps(5, 3, 1, room[:2]...)
	if !slices.Equal(room, kept) {
		t.Errorf("amounts: %v, were %v", room, kept)
	}
}

func TestP2_3Floor(t *testing.T) {
	for _, hi := range words() {
		for _, lo := range words() {
			a := wide.Int{Hi: int64(hi), Lo: lo}
			for _, num := range words() {
				for _, den := range words() {
					checkFloor(t, a, num, den)
				}
			}
		}
	}
}

func checkFloor(t *testing.T, a wide.Int, num, den uint64) {
	t.Helper()
	got, ok := muldiv.Floor(a, num, den)
	product := new(big.Int).Mul(value(a), number(num))
	least := new(big.Int).Neg(new(big.Int).Lsh(big.NewInt(1), 127))
	isWide := product.Cmp(least) >= 0 && product.Cmp(new(big.Int).Neg(least)) < 0
	if den == 0 || num > math.MaxInt64 || !isWide {
		if ok || got != (wide.Int{}) {
			t.Fatalf("Floor(%v, %d, %d): %v, %v, wanted the zero Int and false", a, num, den, got, ok)
		}
		return
	}
	if wanted := new(big.Int).Div(product, number(den)); !ok || value(got).Cmp(wanted) != 0 {
		t.Fatalf("Floor(%v, %d, %d): %v, %v, wanted %v", a, num, den, got, ok, wanted)
	}
}

func TestP2_3FloorEdges(t *testing.T) {
	least := wide.Int{Hi: math.MinInt64}
	for _, c := range []struct {
		a        wide.Int
		num, den uint64
		wanted   wide.Int
		ok       bool
	}{
		{wide.Of(-7), 3, 2, wide.Of(-11), true},
		{wide.Of(7), 3, 2, wide.Of(10), true},
		{wide.Of(-1), 1, most, wide.Of(-1), true},
		{wide.Int{}, 0, 1, wide.Int{}, true},
		{wide.Int{}, 0, 0, wide.Int{}, false},
		{wide.Of(1), math.MaxInt64, 1, wide.Of(math.MaxInt64), true},
		{wide.Of(1), 1 << 63, 1, wide.Int{}, false},
		{wide.Int{}, 1 << 63, 1, wide.Int{}, false},
		{least, 1, 1, least, true},
		// The quotient would be a wide number, but the product isn't one.
		{least, 2, 2, wide.Int{}, false},
		{wide.Int{Hi: 1 << 62}, 2, 2, wide.Int{}, false},
		{wide.Int{Hi: -1 << 62}, 2, 2, wide.Int{Hi: -1 << 62}, true},
	} {
		if got, ok := muldiv.Floor(c.a, c.num, c.den); got != c.wanted || ok != c.ok {
			t.Errorf("Floor(%v, %d, %d): %v, %v", c.a, c.num, c.den, got, ok)
		}
	}
}

func TestP2_4NothingIsLost(t *testing.T) {
	for _, num := range []uint64{1, 3, 1 << 20, 999999937} {
		for _, den := range []uint64{1, 2, 7, 1 << 20, 999999893} {
			for _, rem := range []uint64{0, den - 1} {
				parts := []uint64{0, 1, 5, 1 << 20, 123456789, 0, 2}
				var all uint64
				for i, p := range parts {
					all += p
					q, r, ok := muldiv.Steps(num, den, rem, parts[:i+1]...)
					wq, wr, is := muldiv.Step(all, num, den, rem)
					if q != wq || r != wr || !ok || !is {
						t.Errorf("%v times %d by %d: %d, %d in parts, %d, %d at once", parts[:i+1], num, den, q, r, wq, wr)
					}
				}
			}
		}
	}
}
