package item_test

import (
	"math"
	"math/big"
	"slices"
	"testing"

	"turnstone/item"
	"turnstone/pos"
	"turnstone/vtime"
	"turnstone/wide"
)

const (
	end      = vtime.Time(math.MaxUint64)
	half     = vtime.Time(1 << 63)
	farthest = 1 << 60
	mostW    = 1 << 20
	mostWord = math.MaxUint32
)

func times() []vtime.Time {
	return []vtime.Time{0, 1, 5, 1<<60 - 1, 1 << 60, 1 << 62, half - 1, half, half + 1, 3 << 62, end - 1<<60, end - 4, end, 88172645463325252}
}

// near: times of which no two lie 2^61 apart, on both sides of the end.
func near() []vtime.Time {
	return []vtime.Time{end - 1<<60 + 1, end - 1, end, 0, 1, 1<<60 - 1}
}

func number(t vtime.Time) *big.Int { return new(big.Int).SetUint64(uint64(t)) }

// modulo is the time that a number is modulo 2^64.
func modulo(v *big.Int) vtime.Time {
	return vtime.Time(new(big.Int).Mod(v, new(big.Int).Lsh(big.NewInt(1), 64)).Uint64())
}

func later(t vtime.Time, d int64) vtime.Time {
	return modulo(new(big.Int).Add(number(t), big.NewInt(d)))
}

// difference of two times, by numbers without bounds.
func difference(t, u vtime.Time) *big.Int {
	d := new(big.Int).Sub(number(t), number(u))
	round := new(big.Int).Lsh(big.NewInt(1), 64)
	if !d.IsInt64() && d.Sign() > 0 {
		d.Sub(d, round)
	}
	if !d.IsInt64() {
		d.Add(d, round)
	}
	return d
}

func mayBePos(p pos.Pos) bool { return p.W >= 1 && p.W <= mostW && p.R < p.W }

// mayBe is what the document says of an item, by numbers without bounds.
func mayBe(a item.Item) bool {
	d := difference(a.Dead.Time, a.Time)
	return mayBePos(a.Pos) && mayBePos(a.Dead) && a.W == a.Dead.W && a.ID > 0 && d.Sign() >= 0 && d.Cmp(big.NewInt(farthest)) <= 0
}

// held is layer 4's Cmp by its words.
func held(p, q pos.Pos) int {
	if d := difference(q.Time, p.Time).Sign(); d != 0 {
		return -d
	}
	return big.NewRat(int64(p.R), int64(p.W)).Cmp(big.NewRat(int64(q.R), int64(q.W)))
}

func ahead(a, b item.Item) bool {
	return held(a.Pos, b.Pos) < 0 || held(a.Pos, b.Pos) == 0 && a.ID < b.ID
}

func due(a, b item.Item) bool {
	return held(a.Dead, b.Dead) < 0 || held(a.Dead, b.Dead) == 0 && ahead(a, b)
}

func soonest(l []item.Item) item.Item {
	first := l[0]
	for _, a := range l[1:] {
		if due(a, first) {
			first = a
		}
	}
	return first
}

func spread(base vtime.Time, l []item.Item) *big.Int {
	var greatest, least *big.Int
	for _, a := range l {
		place, dead := difference(a.Time, base), difference(a.Dead.Time, base)
		for _, d := range []*big.Int{place, dead} {
			if greatest == nil || d.Cmp(greatest) > 0 {
				greatest = d
			}
		}
		if least == nil || place.Cmp(least) < 0 {
			least = place
		}
	}
	if len(l) == 0 {
		return new(big.Int)
	}
	return new(big.Int).Sub(greatest, least)
}

func at(t vtime.Time, r, w uint32) pos.Pos { return pos.Pos{Time: t, R: r, W: w} }

// whole is an item of weight 1.
func whole(id int, place, dead vtime.Time) item.Item {
	return item.Item{Pos: at(place, 0, 1), ID: id, Dead: at(dead, 0, 1)}
}

// items that may be, at these times, with deadlines at all distances that they may have.
func items(of []vtime.Time, weights ...uint32) []item.Item {
	var l []item.Item
	for i, u := range of {
		for j, w := range weights {
			for k, d := range []int64{0, 1, 1 << 40, farthest} {
				n := i + j + k
				a := item.Item{Pos: at(u, uint32(n)*(w/3)%w, w), ID: 1 + 5*n%7, Dead: at(later(u, d), uint32(n+1)*(w/3)%w, w)}
				l = append(l, a)
			}
		}
	}
	return l
}

// crowd: items that may be, near one another, many of them at the same place, of the same deadline, or both; no two alike.
func crowd() []item.Item {
	var l []item.Item
	for _, u := range []vtime.Time{end - 1, end, 1} {
		for _, of := range []pos.Pos{at(0, 0, 1), at(0, 1, 2), at(0, 2, 4), at(0, 1, 3), at(0, 524288, mostW)} {
			for _, d := range []int64{2, 3} {
				a := item.Item{Pos: at(u, of.R, of.W), ID: 1 + len(l)*11%31, Dead: at(later(u, d), of.R, of.W)}
				l = append(l, a)
			}
		}
	}
	return l
}

func all() []item.Item {
	return slices.Concat(items(times(), 1, 2, 3, 1<<20-1, mostW), crowd())
}

func TestP5_1Right(t *testing.T) {
	good := item.Item{Pos: at(5, 1, 3), ID: 1, Dead: at(9, 2, 3)}
	for _, c := range []struct {
		what  string
		a     item.Item
		right bool
	}{
		{"an ordinary one", good, true},
		{"the zero one", item.Item{}, false},
		{"the ID 0", item.Item{Pos: good.Pos, ID: 0, Dead: good.Dead}, false},
		{"an ID below 0", item.Item{Pos: good.Pos, ID: -1, Dead: good.Dead}, false},
		{"the least ID", item.Item{Pos: good.Pos, ID: math.MinInt, Dead: good.Dead}, false},
		{"the greatest ID", item.Item{Pos: good.Pos, ID: math.MaxInt, Dead: good.Dead}, true},
		{"without a deadline", item.Item{Pos: good.Pos, ID: 1}, false},
		{"without a position", item.Item{ID: 1, Dead: good.Dead}, false},
		{"a position that may not be", item.Item{Pos: at(5, 3, 3), ID: 1, Dead: good.Dead}, false},
		{"a deadline that may not be", item.Item{Pos: good.Pos, ID: 1, Dead: at(9, 3, 3)}, false},
		{"both of weight 0", item.Item{Pos: at(5, 0, 0), ID: 1, Dead: at(9, 0, 0)}, false},
		{"both of the greatest weight", item.Item{Pos: at(5, mostW-1, mostW), ID: 1, Dead: at(9, mostW-1, mostW)}, true},
		{"both of more than that", item.Item{Pos: at(5, 0, mostW+1), ID: 1, Dead: at(9, 0, mostW+1)}, false},
		{"unlike weights", item.Item{Pos: at(5, 0, 3), ID: 1, Dead: at(9, 0, 2)}, false},
		{"unlike weights, the other way round", item.Item{Pos: at(5, 0, 2), ID: 1, Dead: at(9, 0, 3)}, false},
		{"due where it is", item.Item{Pos: good.Pos, ID: 1, Dead: good.Pos}, true},
		{"due ahead of where it is, at the same time", item.Item{Pos: at(5, 2, 3), ID: 1, Dead: at(5, 1, 3)}, true},
		{"due a time ahead of where it is", whole(1, 5, 4), false},
		{"due as late as may be", whole(1, 5, 5+farthest), true},
		{"due as late as may be, and a rest", item.Item{Pos: at(5, 0, 3), ID: 1, Dead: at(5+farthest, 2, 3)}, true},
		{"due later than that", whole(1, 5, 5+farthest+1), false},
		{"due a quarter of the way round later", whole(1, 5, 5+1<<62), false},
		{"due a half of the way round later", whole(1, 5, 5+half), false},
		{"due over the end", whole(1, end-2, 7), true},
		{"due as late as may be over the end", whole(1, end, farthest-1), true},
		{"due later than that over the end", whole(1, end, farthest), false},
		{"due ahead of where it is over the end", whole(1, 0, end), false},
	} {
		if got := c.a.Right(); got != c.right {
			t.Errorf("%s: %+v right: %v", c.what, c.a, got)
		}
	}
}

func TestP5_1RightOfAll(t *testing.T) {
	positions := []pos.Pos{{}, at(3, 3, 3), at(3, 0, mostW+1), at(half, mostWord, mostWord)}
	for _, u := range times() {
		for _, d := range []int64{math.MinInt64, -1, 0, 1, farthest, farthest + 1, math.MaxInt64} {
			positions = append(positions, at(u, 0, 1), at(u, 1, 2), at(later(u, d), 0, 1), at(later(u, d), 1, 2))
		}
	}
	some := false
	for _, p := range positions {
		for _, q := range positions {
			for _, id := range []int{math.MinInt, 0, 1} {
				a := item.Item{Pos: p, ID: id, Dead: q}
				if got, wanted := a.Right(), mayBe(a); got != wanted {
					t.Fatalf("%+v right: %v", a, got)
				}
				some = some || mayBe(a)
			}
		}
	}
	if !some {
		t.Error("none of these may be")
	}
	for _, a := range all() {
		if !a.Right() {
			t.Errorf("%+v may be, but isn't right", a)
		}
	}
}

func TestP5_1AheadAndDue(t *testing.T) {
	l := all()
	for _, a := range l {
		for _, b := range l {
			if got := a.Ahead(b); got != ahead(a, b) {
				t.Fatalf("%+v ahead of %+v: %v", a, b, got)
			}
			if got := a.Due(b); got != due(a, b) {
				t.Fatalf("%+v due ahead of %+v: %v", a, b, got)
			}
		}
	}
}

func TestP5_1AheadEdges(t *testing.T) {
	for _, c := range []struct {
		what   string
		a, b   item.Item
		ab, ba bool
	}{
		{"times", whole(2, 5, 9), whole(1, 6, 7), true, false},
		{"times over the end", whole(2, end, 9), whole(1, 2, 7), true, false},
		{"the same time, and rests", item.Item{Pos: at(5, 1, 3), ID: 2, Dead: at(9, 0, 3)}, item.Item{Pos: at(5, 1, 2), ID: 1, Dead: at(8, 0, 2)}, true, false},
		{"the same place of unlike weights, and IDs", item.Item{Pos: at(5, 1, 2), ID: 1, Dead: at(9, 0, 2)}, item.Item{Pos: at(5, 2, 4), ID: 2, Dead: at(8, 0, 4)}, true, false},
		{"all alike but the ID", whole(1, 5, 9), whole(2, 5, 9), true, false},
		{"IDs far from one another", whole(1, 5, 9), whole(math.MaxInt, 5, 9), true, false},
		{"itself", whole(1, 5, 9), whole(1, 5, 9), false, false},
		{"itself, of the greatest ID", whole(math.MaxInt, 5, 9), whole(math.MaxInt, 5, 9), false, false},
		{"no deadline counts", whole(1, 5, 9), whole(1, 5, 8), false, false},
		{"just short of a half of the way round", whole(2, 0, 0), whole(1, half-1, half-1), true, false},
		{"a half of the way round each is behind", whole(1, 0, 0), whole(2, half, half), false, false},
	} {
		if c.a.Ahead(c.b) != c.ab || c.b.Ahead(c.a) != c.ba {
			t.Errorf("%s: ahead: %v, and the other one: %v", c.what, c.a.Ahead(c.b), c.b.Ahead(c.a))
		}
	}
}

func TestP5_1DueEdges(t *testing.T) {
	for _, c := range []struct {
		what   string
		a, b   item.Item
		ab, ba bool
	}{
		{"deadlines", whole(2, 6, 8), whole(1, 5, 9), true, false},
		{"deadlines over the end", whole(2, end-1, end), whole(1, end-2, 2), true, false},
		{"the same time of deadlines, and rests", item.Item{Pos: at(6, 0, 3), ID: 2, Dead: at(9, 1, 3)}, item.Item{Pos: at(5, 0, 2), ID: 1, Dead: at(9, 1, 2)}, true, false},
		{"the same deadline, and times", whole(2, 5, 9), whole(1, 6, 9), true, false},
		{"the same deadline of unlike weights, and rests", item.Item{Pos: at(5, 1, 4), ID: 2, Dead: at(9, 2, 4)}, item.Item{Pos: at(5, 1, 2), ID: 1, Dead: at(9, 1, 2)}, true, false},
		{"the same place and deadline, and IDs", whole(1, 5, 9), whole(2, 5, 9), true, false},
		{"of unlike weights too", item.Item{Pos: at(5, 1, 2), ID: 1, Dead: at(9, 1, 2)}, item.Item{Pos: at(5, 2, 4), ID: 2, Dead: at(9, 2, 4)}, true, false},
		{"itself", whole(1, 5, 9), whole(1, 5, 9), false, false},
		{"a half of the way round each is behind", whole(1, 0, 0), whole(2, half, half), false, false},
	} {
		if c.a.Due(c.b) != c.ab || c.b.Due(c.a) != c.ba {
			t.Errorf("%s: due ahead: %v, and the other one: %v", c.what, c.a.Due(c.b), c.b.Due(c.a))
		}
	}
}

func TestP5_1Shift(t *testing.T) {
	odd := []item.Item{{}, {Pos: at(5, 7, 0), ID: -3, Dead: at(half, mostWord, mostWord)}}
	for _, a := range append(all(), odd...) {
		for _, by := range times() {
			wanted := a
			wanted.Time = modulo(new(big.Int).Add(number(a.Time), number(by)))
			wanted.Dead.Time = modulo(new(big.Int).Add(number(a.Dead.Time), number(by)))
			if got := a.Shift(by); got != wanted {
				t.Fatalf("%+v shifted by %d: %+v, wanted %+v", a, by, got, wanted)
			}
		}
	}
	a := item.Item{Pos: at(end, 1, 2), ID: 4, Dead: at(3, 0, 2)}
	if got, wanted := a.Shift(3), (item.Item{Pos: at(2, 1, 2), ID: 4, Dead: at(6, 0, 2)}); got != wanted {
		t.Errorf("%+v shifted by 3: %+v", a, got)
	}
}

func TestP5_1Soonest(t *testing.T) {
	l := all()
	for i, a := range l {
		if got := item.Soonest(a); got != a {
			t.Fatalf("soonest of %+v alone: %+v", a, got)
		}
		for j, b := range l {
			of := []item.Item{a, b, l[(3*i+j+7)%len(l)], l[(i+5*j+2)%len(l)]}
			for n := 2; n <= len(of); n++ {
				if got, wanted := item.Soonest(a, of[1:n]...), soonest(of[:n]); got != wanted {
					t.Fatalf("soonest of %+v: %+v, wanted %+v", of[:n], got, wanted)
				}
			}
		}
	}
	near := crowd()
	for i := range near {
		turned := slices.Concat(near[i:], near[:i])
		if got, wanted := item.Soonest(turned[0], turned[1:]...), soonest(near); got != wanted {
			t.Fatalf("soonest of all, from the place %d on: %+v, wanted %+v", i, got, wanted)
		}
	}
}

func TestP5_1SoonestEdges(t *testing.T) {
	for _, c := range []struct {
		what string
		l    []item.Item
		id   int
	}{
		{"the first one", []item.Item{whole(3, 5, 7), whole(1, 5, 8), whole(2, 4, 9)}, 3},
		{"the one between", []item.Item{whole(1, 5, 8), whole(3, 5, 7), whole(2, 4, 9)}, 3},
		{"the last one", []item.Item{whole(2, 4, 9), whole(1, 5, 8), whole(3, 5, 7)}, 3},
		{"the same deadline", []item.Item{whole(1, 6, 9), whole(2, 5, 9)}, 2},
		{"all alike but the ID", []item.Item{whole(3, 5, 9), whole(1, 5, 9), whole(2, 5, 9)}, 1},
		{"over the end", []item.Item{whole(1, end-5, 1), whole(2, end-5, end-1), whole(3, end-5, 0)}, 2},
		// One by one: far apart the third one is ahead of what it is by then, and behind the first one.
		{"no order", []item.Item{whole(1, 0, 0), whole(2, 3<<62, 3<<62), whole(3, half-1, half-1)}, 3},
		{"a half of the way round", []item.Item{whole(2, 0, 0), whole(1, half, half)}, 2},
	} {
		if got := item.Soonest(c.l[0], c.l[1:]...); got.ID != c.id {
			t.Errorf("%s: the soonest one is %d, wanted %d", c.what, got.ID, c.id)
		}
	}
}

func TestP5_2Spread(t *testing.T) {
	l := append(all(), item.Item{}, whole(0, half, 3), whole(-1, 7, 2), whole(1, 0, end), whole(1, half, half-1), whole(1, half-1, half))
	for i, a := range l {
		of := []item.Item{a, l[(3*i+1)%len(l)], l[(5*i+2)%len(l)], l[(7*i+3)%len(l)]}
		for n := range len(of) + 1 {
			for _, base := range times() {
				got, wanted := item.Spread(base, of[:n]...), spread(base, of[:n])
				if new(big.Int).SetUint64(got).Cmp(wanted) != 0 {
					t.Fatalf("spread of %+v from %d: %d, wanted %v", of[:n], base, got, wanted)
				}
			}
		}
	}
}

func TestP5_2SpreadEdges(t *testing.T) {
	for _, c := range []struct {
		what   string
		base   vtime.Time
		l      []item.Item
		wanted uint64
	}{
		{"none", 7, nil, 0},
		{"one that is due where it is", 7, []item.Item{whole(1, 5, 5)}, 0},
		{"one", 7, []item.Item{whole(1, 5, 9)}, 4},
		{"one behind the base", 3, []item.Item{whole(1, 5, 9)}, 4},
		{"one ahead of the base", 30, []item.Item{whole(1, 5, 9)}, 4},
		{"the first one is the first, and due last", 0, []item.Item{whole(1, 1, 5), whole(2, 2, 4)}, 4},
		{"the last one is the first, and due last", 0, []item.Item{whole(2, 2, 4), whole(1, 1, 5)}, 4},
		{"one is the first, another one due last", 0, []item.Item{whole(1, 3, 4), whole(2, 1, 2), whole(3, 3, 9)}, 8},
		{"over the end", 1, []item.Item{whole(1, end-3, 1), whole(2, 0, 4)}, 8},
		{"no rest counts", 0, []item.Item{{Pos: at(1, 2, 3), ID: 1, Dead: at(5, 2, 3)}}, 4},
		{"a deadline that is ahead isn't the least", 0, []item.Item{whole(1, 5, 2)}, 0},
		{"a position is the greatest", 0, []item.Item{whole(1, 5, 2), whole(2, 1, 2)}, 4},
		{"from the least to the greatest", 0, []item.Item{whole(1, half, half), whole(2, half-1, half-1)}, math.MaxUint64},
		{"it hangs on the base", half, []item.Item{whole(1, half, half), whole(2, half-1, half-1)}, 1},
		{"a deadline that goes round", 0, []item.Item{whole(1, half-1, half)}, 0},
	} {
		if got := item.Spread(c.base, c.l...); got != c.wanted {
			t.Errorf("%s: the spread of %+v from %d is %d, wanted %d", c.what, c.l, c.base, got, c.wanted)
		}
	}
}

// checkOrder: of two one is ahead, and what is ahead of what is ahead is ahead.
func checkOrder(t *testing.T, what string, l []item.Item, less func(a, b item.Item) bool) {
	t.Helper()
	for _, a := range l {
		for _, b := range l {
			if a != b && less(a, b) == less(b, a) {
				t.Fatalf("%s: of %+v and %+v not just one", what, a, b)
			}
			for _, c := range l {
				if less(a, b) && less(b, c) && !less(a, c) {
					t.Fatalf("%s: %+v, %+v and %+v aren't in order", what, a, b, c)
				}
			}
		}
	}
}

func TestP5_3BothAreOrders(t *testing.T) {
	for _, by := range []vtime.Time{0, 7, half - 2, half, end} {
		var l []item.Item
		for i, a := range slices.Concat(items(near(), 1, 3, mostW), crowd()) {
			a.ID = 1 + 37*i%211
			l = append(l, a.Shift(by))
		}
		checkOrder(t, "ahead", l, item.Item.Ahead)
		checkOrder(t, "due ahead", l, item.Item.Due)
	}
}

func TestP5_3OrdersHangOnNoOrigin(t *testing.T) {
	l := all()
	for i, a := range l {
		for j, by := range times() {
			b, base := l[(11*i+3*j+5)%len(l)], times()[i%len(times())]
			sa, sb := a.Shift(by), b.Shift(by)
			if sa.Ahead(sb) != a.Ahead(b) || sa.Due(sb) != a.Due(b) || item.Soonest(sa, sb) != item.Soonest(a, b).Shift(by) {
				t.Fatalf("%+v and %+v: shifted by %d they stand otherwise", a, b, by)
			}
			if item.Spread(base+by, sa, sb) != item.Spread(base, a, b) || !sa.Right() {
				t.Fatalf("%+v and %+v: shifted by %d they lie otherwise", a, b, by)
			}
		}
	}
}

func TestAnItemAnswersWhatItsPositionDoes(t *testing.T) {
	a := item.Item{Pos: at(7, 1, 3), ID: 1, Dead: at(9, 0, 3)}
	moved, ok := a.Move(2)
	if a.Distance(5) != wide.Of(7) || a.Cmp(at(7, 1, 2)) != -1 || !ok || moved != at(8, 0, 3) {
		t.Errorf("%+v: its position's calls answer otherwise", a)
	}
	if a.Since(end) != 8 || a.Add(-8) != end || !a.Before(8) {
		t.Errorf("%+v: its time's calls answer otherwise", a)
	}
}

func TestItemsAreLeftAsTheyWere(t *testing.T) {
	room := crowd()
	kept := slices.Clone(room)
	item.Soonest(whole(1, 5, 9), room[:3]...)
	item.Spread(5, room[:3]...)
	if !slices.Equal(room, kept) {
		t.Errorf("items: %+v, were %+v", room, kept)
	}
}
