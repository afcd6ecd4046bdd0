package wide_test

import (
	"math"
	"math/big"
	"slices"
	"testing"

	"turnstone/wide"
)

var (
	least    = wide.Int{Hi: math.MinInt64}
	greatest = wide.Int{Hi: math.MaxInt64, Lo: math.MaxUint64}
)

// value is what an Int stands for, by the document's words: 2^64 times Hi, and Lo.
func value(a wide.Int) *big.Int {
	v := new(big.Int).Lsh(big.NewInt(a.Hi), 64)
	return v.Add(v, new(big.Int).SetUint64(a.Lo))
}

func isWide(v *big.Int) bool {
	return v.Cmp(value(least)) >= 0 && v.Cmp(value(greatest)) <= 0
}

// numbers of 64 bits: the edges, and some without any pattern (the same in each run).
func words() []uint64 {
	l := []uint64{0, 1, 2, 3, 10, 1<<31 - 1, 1 << 32, 1<<32 + 1, 1<<62 - 1, 1 << 62, 1<<63 - 2, 1<<63 - 1, 1 << 63, 1<<63 + 1, 1<<64 - 10, 1<<64 - 2, 1<<64 - 1}
	x := uint64(88172645463325252)
	for range 6 {
		x ^= x << 13
		x ^= x >> 7
		x ^= x << 17
		l = append(l, x)
	}
	return l
}

func ints() []wide.Int {
	var l []wide.Int
	for _, hi := range words() {
		for _, lo := range words() {
			l = append(l, wide.Int{Hi: int64(hi), Lo: lo})
		}
	}
	return l
}

// check: the answer is the number that is wanted, or, where that isn't a wide number, the zero Int and false.
func check(t *testing.T, what string, got wide.Int, ok bool, wanted *big.Int) {
	t.Helper()
	switch {
	case isWide(wanted) && (!ok || value(got).Cmp(wanted) != 0):
		t.Fatalf("%s: %v, %v, wanted %v", what, value(got), ok, wanted)
	case !isWide(wanted) && (ok || got != wide.Int{}):
		t.Fatalf("%s: %v, %v, wanted the zero Int and false: %v is no wide number", what, value(got), ok, wanted)
	}
}

func TestP1_1Of(t *testing.T) {
	for _, w := range words() {
		if got := value(wide.Of(int64(w))); got.Cmp(big.NewInt(int64(w))) != 0 {
			t.Errorf("Of(%d): %v", int64(w), got)
		}
		if got := value(wide.OfU(w)); got.Cmp(new(big.Int).SetUint64(w)) != 0 {
			t.Errorf("OfU(%d): %v", w, got)
		}
	}
	if got := wide.Of(-7); got != (wide.Int{Hi: -1, Lo: 1<<64 - 7}) {
		t.Errorf("Of(-7): %#v", got)
	}
}

func TestP1_1CmpAndSign(t *testing.T) {
	all := ints()
	for _, a := range all {
		if got := a.Sign(); got != value(a).Sign() {
			t.Fatalf("sign of %v: %d", value(a), got)
		}
		for _, b := range all {
			if got := a.Cmp(b); got != value(a).Cmp(value(b)) {
				t.Fatalf("%v held against %v: %d", value(a), value(b), got)
			}
		}
	}
}

func TestP1_1Small(t *testing.T) {
	for _, a := range ints() {
		v := value(a)
		wanted, is := int64(0), v.IsInt64()
		if is {
			wanted = v.Int64()
		}
		if got, ok := a.Small(); got != wanted || ok != is {
			t.Errorf("%v small: %d, %v", v, got, ok)
		}
	}
	for _, x := range []int64{math.MinInt64, -1, 0, 1, math.MaxInt64} {
		if got, ok := wide.Of(x).Small(); got != x || !ok {
			t.Errorf("%d small: %d, %v", x, got, ok)
		}
	}
	for _, a := range []wide.Int{{Lo: 1 << 63}, {Hi: -1, Lo: 1<<63 - 1}, {Hi: 1}, {Hi: -2, Lo: 1<<64 - 1}} {
		if got, ok := a.Small(); got != 0 || ok {
			t.Errorf("%v small: %d, %v, wanted 0, false", value(a), got, ok)
		}
	}
}

func TestP1_1String(t *testing.T) {
	for _, a := range ints() {
		if got := a.String(); got != value(a).String() {
			t.Errorf("text of %v: %s", value(a), got)
		}
	}
	// Where the digits come in two parts, and the second one begins with noughts.
	ten19 := wide.OfU(1e19)
	for _, x := range []int64{-1, 0, 1, 9, 10, 123456789} {
		a, _ := ten19.Add(wide.Of(x))
		b, _ := a.Neg()
		if a.String() != value(a).String() || b.String() != value(b).String() {
			t.Errorf("texts: %s and %s, wanted %v and %v", a, b, value(a), value(b))
		}
	}
	for text, a := range map[string]wide.Int{
		"0":                    {},
		"-1":                   wide.Of(-1),
		"10000000000000000001": wide.OfU(1e19 + 1),
		"18446744073709551616": {Hi: 1},
		"170141183460469231731687303715884105727":  greatest,
		"-170141183460469231731687303715884105728": least,
	} {
		if got := a.String(); got != text {
			t.Errorf("text: %s, wanted %s", got, text)
		}
	}
}

func TestP1_2AddAndSub(t *testing.T) {
	all := ints()
	for _, a := range all {
		for _, b := range all {
			sum, ok := a.Add(b)
			check(t, "sum", sum, ok, new(big.Int).Add(value(a), value(b)))
			diff, ok := a.Sub(b)
			check(t, "difference", diff, ok, new(big.Int).Sub(value(a), value(b)))
		}
	}
	// Here the second one alone can't be turned, but the difference is a wide number.
	if got, ok := wide.Of(-1).Sub(least); !ok || got != greatest {
		t.Errorf("-1 less the least: %v, %v", got, ok)
	}
}

func TestP1_2Neg(t *testing.T) {
	for _, a := range append(ints(), least, greatest) {
		got, ok := a.Neg()
		check(t, "other side", got, ok, new(big.Int).Neg(value(a)))
	}
	if got, ok := least.Neg(); ok || got != (wide.Int{}) {
		t.Errorf("the other side of the least: %v, %v", got, ok)
	}
}

func TestP1_2Mul(t *testing.T) {
	for _, a := range append(ints(), least, greatest) {
		for _, b := range words() {
			got, ok := a.Mul(int64(b))
			check(t, "product", got, ok, new(big.Int).Mul(value(a), big.NewInt(int64(b))))
		}
	}
	// The least number is a product, the one as great above 0 isn't.
	if got, ok := (wide.Int{Hi: 1 << 62}).Mul(-2); !ok || got != least {
		t.Errorf("2^126 times -2: %v, %v", got, ok)
	}
	if got, ok := (wide.Int{Hi: 1}).Mul(math.MinInt64); !ok || got != least {
		t.Errorf("2^64 times -2^63: %v, %v", got, ok)
	}
	for _, b := range []int64{-1, 2, math.MinInt64, math.MaxInt64} {
		if got, ok := least.Mul(b); ok || got != (wide.Int{}) {
			t.Errorf("the least times %d: %v, %v", b, got, ok)
		}
	}
	if got, ok := least.Mul(0); !ok || got != (wide.Int{}) {
		t.Errorf("the least times 0: %v, %v", got, ok)
	}
}

func TestP1_2Sum(t *testing.T) {
	one := wide.Of(1)
	back := wide.Of(-1)
	for _, c := range []struct {
		parts  []wide.Int
		wanted wide.Int
		ok     bool
	}{
		{nil, wide.Int{}, true},
		{[]wide.Int{{}}, wide.Int{}, true},
		{[]wide.Int{least}, least, true},
		{[]wide.Int{wide.Of(5), wide.Of(-7), one}, back, true},
		{[]wide.Int{greatest, back, one}, greatest, true},
		{[]wide.Int{least, greatest, one}, wide.Int{}, true},
		// All together they are a wide number, but not what there is on the way.
		{[]wide.Int{greatest, one, back}, wide.Int{}, false},
		{[]wide.Int{least, back, one}, wide.Int{}, false},
		{[]wide.Int{one, back, greatest, greatest, least}, wide.Int{}, false},
	} {
		if got, ok := wide.Sum(c.parts...); got != c.wanted || ok != c.ok {
			t.Errorf("sum of %v: %v, %v", c.parts, got, ok)
		}
	}
	if got, ok := wide.Sum(); got != (wide.Int{}) || !ok {
		t.Errorf("sum of none: %v, %v", got, ok)
	}
}

func TestSumLeavesItsParts(t *testing.T) {
	room := []wide.Int{wide.Of(1), wide.Of(2), wide.Of(3), wide.Of(4)}
	kept := slices.Clone(room)
	wide.Sum(room[:2]...)
	if !slices.Equal(room, kept) {
		t.Errorf("parts: %v, were %v", room, kept)
	}
}

func TestP1_3Div(t *testing.T) {
	for _, a := range append(ints(), least, greatest) {
		for _, b := range words()[1:] {
			q, left, ok := a.Div(b)
			// Of a divisor above 0 DivMod rounds down.
			wanted, rest := new(big.Int).DivMod(value(a), new(big.Int).SetUint64(b), new(big.Int))
			check(t, "quotient", q, ok, wanted)
			if left != rest.Uint64() {
				t.Fatalf("%v by %d: %d left, wanted %v", a, b, left, rest)
			}
		}
		if q, left, ok := a.Div(0); q != (wide.Int{}) || left != 0 || ok {
			t.Fatalf("%v by 0: %v, %d, %v", a, q, left, ok)
		}
	}
	if q, left, ok := wide.Of(-7).Div(2); q != wide.Of(-4) || left != 1 || !ok {
		t.Errorf("-7 by 2: %v, %d, %v", q, left, ok)
	}
	if q, left, ok := least.Div(1); q != least || left != 0 || !ok {
		t.Errorf("the least by 1: %v, %d, %v", q, left, ok)
	}
	if q, left, ok := wide.Of(-1).Div(math.MaxUint64); q != wide.Of(-1) || left != math.MaxUint64-1 || !ok {
		t.Errorf("-1 by 2^64-1: %v, %d, %v", q, left, ok)
	}
}

func TestP1_4SumsHangOnNoOrder(t *testing.T) {
	parts := []wide.Int{wide.OfU(math.MaxUint64), wide.Of(-3), {Hi: 1 << 60, Lo: 5}, {Hi: -1 << 61, Lo: 9}, wide.Of(math.MinInt64)}
	wanted := new(big.Int)
	for _, p := range parts {
		wanted.Add(wanted, value(p))
	}
	for i := range parts {
		for j := range parts {
			turned := slices.Clone(parts)
			turned[i], turned[j] = turned[j], turned[i]
			got, ok := wide.Sum(turned...)
			check(t, "sum", got, ok, wanted)
		}
	}
}

func TestP1_4WhatIsDivided(t *testing.T) {
	for _, a := range append(ints(), least, greatest) {
		for _, b := range words() {
			if b == 0 || b > math.MaxInt64 {
				continue
			}
			q, left, _ := a.Div(b)
			// Below 0 the quotient times b may be less than the least, so what is left goes first.
			rest, ok := a.Sub(wide.OfU(left))
			if !ok {
				continue
			}
			if product, ok := q.Mul(int64(b)); !ok || product != rest || left >= b {
				t.Fatalf("%v by %d: %v, %d left", a, b, q, left)
			}
		}
	}
}
