package span_test

import (
	"math"
	"math/big"
	"slices"
	"testing"

	"turnstone/item"
	"turnstone/pos"
	"turnstone/span"
	"turnstone/vtime"
)

const (
	end   = vtime.Time(math.MaxUint64)
	half  = vtime.Time(1 << 63)
	most  = 1 << 62
	mostW = 1 << 20
	mostN = 32
)

func times() []vtime.Time {
	return []vtime.Time{0, 1, 5, 1 << 40, most, half - 1, half, half + 1, 3 << 62, end - 4, end, 88172645463325252}
}

func number(x uint64) *big.Int { return new(big.Int).SetUint64(x) }

// difference of two times, by numbers without bounds.
func difference(t, u vtime.Time) *big.Int {
	d := new(big.Int).Sub(number(uint64(t)), number(uint64(u)))
	round := new(big.Int).Lsh(big.NewInt(1), 64)
	if !d.IsInt64() && d.Sign() > 0 {
		d.Sub(d, round)
	}
	if !d.IsInt64() {
		d.Add(d, round)
	}
	return d
}

// spread is what layer 5 says of one, by numbers without bounds.
func spread(base vtime.Time, l []item.Item) *big.Int {
	if len(l) == 0 {
		return new(big.Int)
	}
	least, greatest := difference(l[0].Time, base), difference(l[0].Time, base)
	for _, a := range l {
		place, due := difference(a.Time, base), difference(a.Dead.Time, base)
		if place.Cmp(least) < 0 {
			least = place
		}
		for _, d := range []*big.Int{place, due} {
			if d.Cmp(greatest) > 0 {
				greatest = d
			}
		}
	}
	return new(big.Int).Sub(greatest, least)
}

// room is what the document says of Room, and of Within, by numbers without bounds.
func room(base vtime.Time, l []item.Item) (uint64, bool) {
	left := new(big.Int).Sub(big.NewInt(most), spread(base, l))
	if left.Sign() < 0 {
		return 0, false
	}
	return left.Uint64(), true
}

func check(t *testing.T, base vtime.Time, l []item.Item) (uint64, bool) {
	t.Helper()
	left, within := span.Room(base, l...), span.Within(base, l...)
	if wanted, is := room(base, l); left != wanted || within != is {
		t.Fatalf("from %d, of %+v: the room %d, within %v, wanted %d, %v", base, l, left, within, wanted, is)
	}
	return left, within
}

// anchor is what the document says of Anchor, by numbers without bounds.
func anchor(l []item.Item) (vtime.Time, bool) {
	if len(l) == 0 || len(l) > mostN {
		return 0, false
	}
	far, all := new(big.Int), new(big.Int)
	for _, a := range l {
		if a.W < 1 || a.W > mostW || a.R >= a.W {
			return 0, false
		}
		w := number(uint64(a.W))
		all.Add(all, w)
		far.Add(far, new(big.Int).Mul(w, difference(a.Time, l[0].Time)))
		far.Add(far, number(uint64(a.R)))
	}
	// Of a divisor above 0 Div rounds down.
	far.Div(far, all)
	far.Add(far, number(uint64(l[0].Time)))
	return vtime.Time(far.Mod(far, new(big.Int).Lsh(big.NewInt(1), 64)).Uint64()), true
}

func checkAnchor(t *testing.T, l []item.Item) (vtime.Time, bool) {
	t.Helper()
	got, ok := span.Anchor(l...)
	if wanted, is := anchor(l); got != wanted || ok != is {
		t.Fatalf("the anchor of %+v: %d, %v, wanted %d, %v", l, got, ok, wanted, is)
	}
	return got, ok
}

// at is an item of weight 1, at that time, due at that one.
func at(time, due vtime.Time) item.Item {
	return item.Item{Pos: pos.Pos{Time: time, W: 1}, ID: 1, Dead: pos.Pos{Time: due, W: 1}}
}

// of is an item of a position and of a weight, due a little later.
func of(time vtime.Time, r, w uint32) item.Item {
	return item.Item{Pos: pos.Pos{Time: time, R: r, W: w}, ID: 1, Dead: pos.Pos{Time: time + 7, W: w}}
}

func shifted(by vtime.Time, l []item.Item) []item.Item {
	var all []item.Item
	for _, a := range l {
		all = append(all, a.Shift(by))
	}
	return all
}

// crowd: so many items, no two of whose times lie further than 2^61 from one another, around that time; without a pattern, but always the same.
func crowd(n int, around vtime.Time) []item.Item {
	x := uint64(n)*2 + 88172645463325253
	next := func() uint64 {
		x ^= x << 13
		x ^= x >> 7
		x ^= x << 17
		return x
	}
	var l []item.Item
	for range n {
		w := uint32(1) << (next() >> 8 % 21)
		w -= uint32(next()>>8) % w / 2
		// Some lie a little from one another, and some far.
		place := around + vtime.Time(next()>>(5+next()%50)) - 1<<58
		due := place + vtime.Time(next()>>(4+next()%50))
		l = append(l, item.Item{Pos: pos.Pos{Time: place, R: uint32(next()>>8) % w, W: w}, ID: len(l) + 1, Dead: pos.Pos{Time: due, R: uint32(next()>>8) % w, W: w}})
	}
	return l
}

func TestP13_1Edges(t *testing.T) {
	for _, c := range []struct {
		what   string
		base   vtime.Time
		l      []item.Item
		left   uint64
		within bool
	}{
		{"none", 0, nil, most, true},
		{"none, from elsewhere", half, []item.Item{}, most, true},
		{"one that is due at its place", 5, []item.Item{at(5, 5)}, most, true},
		{"one that is due later", 5, []item.Item{at(5, 9)}, most - 4, true},
		{"one that is due as late as an item may be", 5, []item.Item{at(5, 5+1<<60)}, 3 << 60, true},
		{"one, ahead of its base", 8, []item.Item{at(5, 9)}, most - 4, true},
		{"one, all ahead of its base", 90, []item.Item{at(5, 9)}, most - 4, true},
		{"one, all behind its base", 1, []item.Item{at(5, 9)}, most - 4, true},
		{"two", 5, []item.Item{at(5, 9), at(9, 15)}, most - 10, true},
		{"two, the other way round", 5, []item.Item{at(9, 15), at(5, 9)}, most - 10, true},
		{"two, of whom the first one is due last", 5, []item.Item{at(5, 30), at(9, 15)}, most - 25, true},
		{"places just within", 0, []item.Item{at(0, 0), at(most, most)}, 0, true},
		{"places nearly as far apart", 0, []item.Item{at(0, 0), at(most-1, most-1)}, 1, true},
		{"places just not within", 0, []item.Item{at(0, 0), at(most+1, most+1)}, 0, false},
		{"a deadline just within", 0, []item.Item{at(most-9, most), at(0, 0)}, 0, true},
		{"a deadline just not within", 0, []item.Item{at(most-9, most+1), at(0, 0)}, 0, false},
		{"a place just within, from between", 1 << 61, []item.Item{at(most, most), at(0, 0)}, 0, true},
		{"a place just not within, from between", 1 << 61, []item.Item{at(most, most), at(end, end)}, 0, false},
		{"just within, from ahead", end - 9, []item.Item{at(most, most), at(0, 0)}, 0, true},
		{"just within, from behind", most + 9, []item.Item{at(most, most), at(0, 0)}, 0, true},
		{"just within, from as far behind as may be", half, []item.Item{at(most, most), at(0, 0)}, 0, true},
		{"just within, but from further behind", half + 1, []item.Item{at(most, most), at(0, 0)}, 0, false},
		{"just within, from as far ahead as may be", half + most + 1, []item.Item{at(most, most), at(0, 0)}, 0, true},
		{"just within, but from further ahead", half + most, []item.Item{at(most, most), at(0, 0)}, 0, false},
		{"as far apart as may be", 0, []item.Item{at(half, half), at(half-1, half-1)}, 0, false},
		{"a deadline as far behind as may be", 0, []item.Item{at(half, half-1)}, 0, false},
		{"of what is left nothing counts", 5, []item.Item{{Pos: pos.Pos{Time: 5, R: 6, W: 7}, Dead: pos.Pos{Time: 9, R: 6, W: 7}}}, most - 4, true},
		{"a deadline ahead of its item", 5, []item.Item{at(5, 1)}, most, true},
		{"a deadline ahead of all", 5, []item.Item{at(5, 1), at(6, 8)}, most - 3, true},
		{"a deadline behind, of one that may not be", 5, []item.Item{at(5, 5+most)}, 0, true},
		{"and a little further", 5, []item.Item{at(5, 6+most)}, 0, false},
		{"the zero item", 0, []item.Item{{}}, most, true},
		{"the zero item, from elsewhere", 1 << 40, []item.Item{{}, {}}, most, true},
	} {
		for _, by := range times() {
			left, within := check(t, c.base+by, shifted(by, c.l))
			if left != c.left || within != c.within {
				t.Errorf("%s, shifted by %d: the room %d, within %v, wanted %d, %v", c.what, by, left, within, c.left, c.within)
			}
		}
	}
}

func TestP13_1FromAnyBase(t *testing.T) {
	counts := map[bool]int{}
	for n := range 40 {
		for _, around := range times() {
			l := crowd(n, around)
			for _, base := range append(times(), around, around+most, around-most, around+half-1<<58) {
				_, within := check(t, base, l)
				counts[within]++
				_, within = check(t, base, append(l, at(base, base+most)))
				counts[within]++
			}
		}
	}
	if counts[true] < 1000 || counts[false] < 1000 {
		t.Errorf("within or not: %v", counts)
	}
}

func TestP13_1JustWithin(t *testing.T) {
	// One more, so far away that nothing is left, or a little, or too little.
	for n := 1; n < 20; n++ {
		for _, around := range times() {
			l := crowd(n, around)
			first := l[0]
			for _, a := range l {
				if difference(a.Time, first.Time).Sign() < 0 {
					first = a
				}
			}
			for little := range vtime.Time(3) {
				last := first.Time + most - 1 + little
				for _, more := range []item.Item{at(last, last), at(last-9, last), at(first.Time+1, last)} {
					left, within := check(t, around, append(slices.Clone(l), more))
					if within != (little < 2) || (left == 1) != (little == 0) {
						t.Errorf("%+v beside %+v: the room %d, within %v", more, l, left, within)
					}
				}
			}
		}
	}
}

func TestP13_2AnchorEdges(t *testing.T) {
	for _, c := range []struct {
		what   string
		l      []item.Item
		wanted vtime.Time
		ok     bool
	}{
		{"none", nil, 0, false},
		{"none, in a list", []item.Item{}, 0, false},
		{"one", []item.Item{of(5, 0, 1)}, 5, true},
		{"one, and what is left", []item.Item{of(5, 6, 7)}, 5, true},
		{"one at 0", []item.Item{of(0, 0, 1)}, 0, true},
		{"one at the end", []item.Item{of(end, 0, mostW)}, end, true},
		{"two", []item.Item{of(5, 0, 1), of(9, 0, 1)}, 7, true},
		{"two, rounded down", []item.Item{of(5, 0, 1), of(8, 0, 1)}, 6, true},
		{"two, rounded down from behind", []item.Item{of(8, 0, 1), of(5, 0, 1)}, 6, true},
		{"two, of unlike weights", []item.Item{of(5, 0, 3), of(9, 0, 1)}, 6, true},
		{"two, and what is left, just not a whole one", []item.Item{of(5, 2, 4), of(6, 1, 4)}, 5, true},
		{"two, and what is left, just a whole one", []item.Item{of(5, 2, 4), of(6, 2, 4)}, 6, true},
		{"over the end", []item.Item{of(end-1, 0, 1), of(4, 0, 1)}, 1, true},
		{"back over the end", []item.Item{of(4, 0, 1), of(end-7, 0, 1)}, end - 1, true},
		{"half of the way round", []item.Item{of(0, 0, 1), of(half, 0, 1)}, 3 << 62, true},
		{"from the other one half of the way round", []item.Item{of(half, 0, 1), of(0, 0, 1)}, most, true},
		{"32", slices.Repeat([]item.Item{of(5, 0, 1)}, 32), 5, true},
		{"33", slices.Repeat([]item.Item{of(5, 0, 1)}, 33), 0, false},
		{"of weight 0", []item.Item{of(5, 0, 0)}, 0, false},
		{"of too great a weight", []item.Item{of(5, 0, mostW+1)}, 0, false},
		{"of as much left as its weight", []item.Item{of(5, 3, 3)}, 0, false},
		{"one that may not be, among others", []item.Item{of(5, 0, 1), of(9, 1, 1), of(5, 0, 1)}, 0, false},
		{"one that may not be, behind others", []item.Item{of(5, 0, 1), of(9, 1, 1)}, 0, false},
		{"one that may not be, ahead of others", []item.Item{of(5, 1, 1), of(9, 0, 1)}, 0, false},
		{"the zero item", []item.Item{{}}, 0, false},
		{"of positions alone", []item.Item{{Pos: pos.Pos{Time: 5, W: 1}, ID: -3, Dead: pos.Pos{R: 9}}, {Pos: pos.Pos{Time: 9, W: 1}}}, 7, true},
	} {
		got, ok := checkAnchor(t, c.l)
		if got != c.wanted || ok != c.ok {
			t.Errorf("%s: %d, %v, wanted %d, %v", c.what, got, ok, c.wanted, c.ok)
		}
	}
}

func TestP13_2Anchor(t *testing.T) {
	for n := range 36 {
		for _, around := range times() {
			l := crowd(n, around)
			got, ok := checkAnchor(t, l)
			for i := range l {
				// Whoever is the first one, of what lies near.
				turned := slices.Concat(l[i:], l[:i])
				if again, is := checkAnchor(t, turned); again != got || is != ok {
					t.Fatalf("of %+v: %d, %v, wanted %d, %v", turned, again, is, got, ok)
				}
			}
			for _, far := range times() {
				checkAnchor(t, append(slices.Clone(l), of(far, 2, 3)))
				checkAnchor(t, append([]item.Item{of(far, 2, 3)}, l...))
			}
		}
	}
}

func TestP13_3NoBaseCounts(t *testing.T) {
	for n := 1; n < 20; n++ {
		for _, around := range times() {
			// The last item is just as far away as may be, or a little nearer.
			l := append(crowd(n, around), at(around-1<<58, around-1<<58))
			l = append(l, at(around-1<<58+most-vtime.Time(n)%3, around-1<<58+most-vtime.Time(n)%3))
			for little := range vtime.Time(33) {
				base := around - 1<<58 + (most-2)/32*little
				if left, within := check(t, base, l); left != uint64(n)%3 || !within {
					t.Fatalf("from %d: of %+v the room is %d, within %v", base, l, left, within)
				}
			}
			for _, a := range l {
				for _, base := range []vtime.Time{a.Time, a.Dead.Time} {
					if left, within := check(t, base, l); left != uint64(n)%3 || !within {
						t.Fatalf("from its own %d: of %+v the room is %d, within %v", base, l, left, within)
					}
				}
			}
		}
	}
}

func TestP13_3Shifted(t *testing.T) {
	for n := range 34 {
		l := crowd(n, 0)
		for _, base := range append(times(), 1<<58, 1<<60) {
			left, within := check(t, base, l)
			now, ok := checkAnchor(t, l)
			for _, by := range append(times(), 12345678901234567, end-1<<60) {
				moved := shifted(by, l)
				if again, is := check(t, base+by, moved); again != left || is != within {
					t.Fatalf("of %+v, shifted by %d: the room %d, within %v, wanted %d, %v", l, by, again, is, left, within)
				}
				wanted := now + by
				if !ok {
					wanted = 0
				}
				if again, is := checkAnchor(t, moved); again != wanted || is != ok {
					t.Fatalf("of %+v, shifted by %d: the anchor %d, %v, wanted %d, %v", l, by, again, is, wanted, ok)
				}
			}
		}
	}
}

func TestP13_1ItemsAreLeftAlone(t *testing.T) {
	all := crowd(20, end)
	were := slices.Clone(all)
	span.Within(3, all[:7]...)
	span.Room(3, all[:7]...)
	span.Anchor(all[:7]...)
	if !slices.Equal(all, were) {
		t.Error("the items, or the spare room behind them, were changed")
	}
}
