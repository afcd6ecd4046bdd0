package dtree_test

import (
	"math"
	"math/big"
	"slices"
	"testing"

	"turnstone/dtree"
	"turnstone/item"
	"turnstone/pos"
	"turnstone/vtime"
)

const (
	end   = vtime.Time(math.MaxUint64)
	half  = vtime.Time(1 << 63)
	mostW = 1 << 20
)

// origins: wherever times begin, all that is told is the same; what lies near most of these goes round.
func origins() []vtime.Time {
	return []vtime.Time{0, end, half, half - 1, 1 << 61, 3 << 62, 88172645463325252}
}

// A thing is an item by numbers without bounds: its places are counted from an origin, and so they have an order of their own.
type thing struct {
	id          int
	place, dead *big.Rat
	w           uint32
}

// of is a thing with a time and a rest of its position, and of its deadline.
func of(id int, w uint32, time int64, rest uint32, due int64, left uint32) thing {
	exact := func(whole int64, rest uint32) *big.Rat {
		r := big.NewRat(int64(rest), int64(w))
		return r.Add(r, new(big.Rat).SetInt64(whole))
	}
	return thing{id, exact(time, rest), exact(due, left), w}
}

// whole is a thing of weight 1.
func whole(id int, time, due int64) thing { return of(id, 1, time, 0, due, 0) }

func (a thing) ahead(b thing) bool {
	held := a.place.Cmp(b.place)
	return held < 0 || held == 0 && a.id < b.id
}

func (a thing) due(b thing) bool {
	held := a.dead.Cmp(b.dead)
	return held < 0 || held == 0 && a.ahead(b)
}

func (a thing) same(b thing) bool { return !a.ahead(b) && !b.ahead(a) }

func position(origin vtime.Time, place *big.Rat, w uint32) pos.Pos {
	distance := new(big.Rat).Mul(place, new(big.Rat).SetInt64(int64(w)))
	time, rest := new(big.Int).DivMod(distance.Num(), big.NewInt(int64(w)), new(big.Int))
	time.Add(time, new(big.Int).SetUint64(uint64(origin)))
	time.Mod(time, new(big.Int).Lsh(big.NewInt(1), 64))
	return pos.Pos{Time: vtime.Time(time.Uint64()), R: uint32(rest.Uint64()), W: w}
}

// at is its item, from that origin.
func (a thing) at(origin vtime.Time) item.Item {
	return item.Item{Pos: position(origin, a.place, a.w), ID: a.id, Dead: position(origin, a.dead, a.w)}
}

func items(origin vtime.Time, l []thing) []item.Item {
	var all []item.Item
	for _, a := range l {
		all = append(all, a.at(origin))
	}
	return all
}

// in order: a list of things, as a tree should hold them.
func inOrder(l []thing) []thing {
	return slices.SortedFunc(slices.Values(l), func(a, b thing) int {
		switch {
		case a.ahead(b):
			return -1
		case b.ahead(a):
			return 1
		}
		return 0
	})
}

// holds: at which place of a list a thing is, or the same thing.
func holds(l []thing, a thing) int { return slices.IndexFunc(l, a.same) }

func without(l []thing, a thing) []thing { return slices.DeleteFunc(slices.Clone(l), a.same) }

// soonest: the one of a list that is due ahead of all others.
func soonest(l []thing) thing {
	first := l[0]
	for _, a := range l[1:] {
		if a.due(first) {
			first = a
		}
	}
	return first
}

// crowd: things no two of which are the same one; many are at the same place, of the same deadline, or of the same ID.
func crowd() []thing {
	return []thing{
		whole(1, 0, 5), whole(2, 0, 4), whole(3, 0, 5), whole(2, 1, 4), whole(7, -2, 9), whole(1, 2, 2),
		of(4, 2, -1, 1, 4, 1), of(5, 4, -1, 2, 4, 2), of(3, 2, -1, 1, 3, 0), of(9, mostW, -1, mostW/2, 4, mostW/2),
		of(6, 3, 0, 1, 3, 2), of(6, 2, 0, 1, 3, 1), of(5, mostW, 0, mostW-1, 4, 0), of(8, mostW-1, 0, mostW-2, 4, 0),
		whole(10, -1<<61, -1<<61+1<<60), whole(11, 1<<61, 1<<61), of(12, 7, 1<<60, 3, 1<<61, 0), whole(13, -1<<61, 0-1<<61),
		whole(math.MaxInt, 1, 4), whole(math.MaxInt, 0, 4),
	}
}

// crossed: so many things of which most that stand further ahead are due later.
func crossed(n int) []thing {
	var l []thing
	for i := range n {
		l = append(l, whole(1+i*7%n, int64(i/2), int64(2*n-i+i*5%11)))
	}
	return l
}

// check holds a tree against the things that it should hold.
func check(t *testing.T, what string, x dtree.Tree, origin vtime.Time, l []thing) {
	t.Helper()
	l = inOrder(l)
	all := items(origin, l)
	if got := x.All(); !slices.Equal(got, all) {
		t.Fatalf("%s: it holds %+v, wanted %+v", what, got, all)
	}
	if got := x.Len(); got != len(l) {
		t.Fatalf("%s: its length is %d, wanted %d", what, got, len(l))
	}
	if d := x.Depth(); 1<<((d+1)/2) > len(l)+1 || 1<<d <= len(l) {
		t.Fatalf("%s: of %d items the depth is %d", what, len(l), d)
	}
	least, ok := x.Min()
	if len(l) > 0 && (!ok || least != all[0]) || len(l) == 0 && (ok || least != item.Item{}) {
		t.Fatalf("%s: its least is %+v, %v", what, least, ok)
	}
	for n := range len(l) + 1 {
		checkSoonest(t, what, x, origin, l, n)
	}
}

// checkSoonest: of the beginning of n things.
func checkSoonest(t *testing.T, what string, x dtree.Tree, origin vtime.Time, l []thing, n int) {
	t.Helper()
	all := items(origin, l)
	got, ok := x.Soonest(func(a item.Item) bool { return slices.Contains(all[:n], a) })
	var wanted item.Item
	if n > 0 {
		wanted = soonest(l[:n]).at(origin)
	}
	if got != wanted || ok != (n > 0) {
		t.Fatalf("%s: of the first %d of %+v the soonest is %+v, %v, wanted %+v", what, n, all, got, ok, wanted)
	}
}

// orders of the numbers below n, all of them.
func orders(n int) [][]int {
	if n == 0 {
		return [][]int{nil}
	}
	var l [][]int
	for _, o := range orders(n - 1) {
		for i := range n {
			l = append(l, slices.Insert(slices.Clone(o), i, n-1))
		}
	}
	return l
}

func picked(l []thing, order []int) []thing {
	var p []thing
	for _, i := range order {
		p = append(p, l[i])
	}
	return p
}

// chance: numbers without a pattern, but always the same.
func chance() func(n int) int {
	x := uint64(88172645463325252)
	return func(n int) int {
		x ^= x << 13
		x ^= x >> 7
		x ^= x << 17
		return int(x >> 8 % uint64(n))
	}
}

func TestP7_1New(t *testing.T) {
	next, all := chance(), crowd()
	for _, origin := range origins() {
		for n := range len(all) + 1 {
			l := slices.Clone(all)
			for i := range l {
				j := next(i + 1)
				l[i], l[j] = l[j], l[i]
			}
			l = l[:n]
			x := dtree.New(items(origin, l)...)
			check(t, "new", x, origin, l)
			for _, a := range all {
				if x.Has(a.at(origin)) != (holds(l, a) >= 0) {
					t.Fatalf("of %+v it has %+v: %v", items(origin, l), a.at(origin), x.Has(a.at(origin)))
				}
			}
		}
	}
}

func TestP7_1NewPutsEachThingInOnce(t *testing.T) {
	// The first one of each stays, of whatever deadline and weight the others are.
	first, other, heavy := whole(1, 5, 9), whole(1, 5, 7), of(1, 2, 5, 0, 8, 0)
	for _, l := range [][]thing{{first, other, heavy}, {other, heavy, first}, {heavy, first, other}, {first, first}} {
		check(t, "the same thing", dtree.New(items(end, l)...), end, l[:1])
		l = slices.Insert(l, 1, whole(2, 5, 9), whole(1, 4, 9))
		check(t, "the same thing, and others", dtree.New(items(end, l)...), end, l[:3])
	}
}

func TestP7_1NewLeavesItsItemsAlone(t *testing.T) {
	l := inOrder(crowd())
	slices.Reverse(l)
	all := items(3, l)
	were := slices.Clone(all)
	x := dtree.New(all[:7]...)
	if !slices.Equal(all, were) {
		t.Error("its items, or the spare room behind them, were changed")
	}
	clear(all)
	check(t, "of items that were written over", x, 3, l[:7])
}

func TestP7_1ATreeAnswersWhatItsTreeDoes(t *testing.T) {
	all := orders(5)
	for c, come := range all {
		origin, l := origins()[c%len(origins())], picked(crossed(5), come)
		// Each order of coming meets some of those of leaving.
		for g := c % 20; g < len(all); g += 20 {
			x, held := dtree.New(), []thing(nil)
			for _, a := range l {
				if !x.Insert(a.at(origin)) || x.Insert(a.at(origin)) {
					t.Fatalf("%+v is put in, and once more", a.at(origin))
				}
				held = append(held, a)
				check(t, "put in", x, origin, held)
			}
			for _, a := range picked(l, all[g]) {
				if !x.Delete(a.at(origin)) || x.Delete(a.at(origin)) || x.Has(a.at(origin)) {
					t.Fatalf("%+v is taken, and once more", a.at(origin))
				}
				held = without(held, a)
				check(t, "taken", x, origin, held)
			}
		}
	}
}

func TestP7_1Clone(t *testing.T) {
	all := crowd()
	for n := range len(all) + 1 {
		x := dtree.New(items(end, all[:n])...)
		c := x.Clone()
		check(t, "a clone", c, end, all[:n])
		for i, a := range all {
			// By turns the one and the other one changes.
			change := x
			if i%2 == 0 {
				change = c
			}
			if i < n {
				change.Delete(a.at(end))
			} else {
				change.Insert(a.at(end))
			}
		}
		var left, right []thing
		for i, a := range all {
			if (i%2 == 0) == (i < n) {
				left = append(left, a)
			} else {
				right = append(right, a)
			}
		}
		check(t, "what was cloned", x, end, left)
		check(t, "its clone", c, end, right)
		check(t, "its clone's clone", c.Clone(), end, right)
	}
}

func TestP7_1Replace(t *testing.T) {
	a, b, c := whole(1, 1, 9), whole(2, 2, 5), whole(3, 3, 4)
	l := []thing{a, b, c}
	for _, e := range []struct {
		what     string
		old, new thing
		wanted   []thing
	}{
		{"by one ahead of all", b, whole(4, -7, 6), []thing{whole(4, -7, 6), a, c}},
		{"by one behind all", b, whole(4, 9, 12), []thing{a, c, whole(4, 9, 12)}},
		{"by one at the same place", b, whole(4, 2, 5), []thing{a, whole(4, 2, 5), c}},
		{"by one of its ID", b, whole(2, 5, 6), []thing{a, c, whole(2, 5, 6)}},
		{"by one of another one's ID", b, whole(1, 5, 6), []thing{a, c, whole(1, 5, 6)}},
		{"by itself", b, b, l},
		{"by the same thing, due sooner", b, whole(2, 2, 3), []thing{a, whole(2, 2, 3), c}},
		{"by the same thing, due later", b, whole(2, 2, 20), []thing{a, whole(2, 2, 20), c}},
		{"by the same thing of another weight", b, of(2, 8, 2, 0, 3, 7), []thing{a, of(2, 8, 2, 0, 3, 7), c}},
		{"the same thing as one that is there, by another one", whole(2, 2, 7), whole(4, 0, 6), []thing{whole(4, 0, 6), a, c}},
		{"the same thing as one that is there, by itself", whole(2, 2, 7), whole(2, 2, 7), []thing{a, whole(2, 2, 7), c}},
		{"the first one", a, whole(4, 5, 6), []thing{b, c, whole(4, 5, 6)}},
		{"the last one", c, whole(4, 0, 6), []thing{whole(4, 0, 6), a, b}},
		{"one that isn't there", whole(4, 2, 5), whole(5, 5, 6), nil},
		{"one of an ID that is elsewhere", whole(2, 3, 5), whole(5, 5, 6), nil},
		{"one that isn't there, by itself", whole(4, 2, 5), whole(4, 2, 5), nil},
		{"one that isn't there, by the same thing", whole(4, 2, 5), whole(4, 2, 6), nil},
		{"one that isn't there, by one that is", whole(4, 2, 5), b, nil},
		{"by one that is there", b, a, nil},
		{"by one that is there, the other way", a, b, nil},
		{"by the same thing as one that is there", b, whole(3, 3, 8), nil},
		{"by the same thing of another weight as one that is there", b, of(3, 2, 3, 0, 8, 1), nil},
	} {
		for _, origin := range origins() {
			for _, come := range orders(3) {
				x := dtree.New(items(origin, picked(l, come))...)
				was := x.Depth()
				wanted, ok := e.wanted, e.wanted != nil
				if !ok {
					wanted = l
				}
				if got := x.Replace(e.old.at(origin), e.new.at(origin)); got != ok {
					t.Fatalf("%s: %v", e.what, got)
				}
				if !ok && x.Depth() != was {
					t.Fatalf("%s: what is refused changes the tree", e.what)
				}
				check(t, e.what, x, origin, wanted)
			}
		}
	}
}

func TestP7_1ReplaceInSmallTrees(t *testing.T) {
	a, b := whole(1, 1, 9), whole(2, 2, 5)
	for _, origin := range origins() {
		none := dtree.New()
		if none.Replace(a.at(origin), b.at(origin)) || none.Replace(a.at(origin), a.at(origin)) {
			t.Error("one of none is replaced")
		}
		check(t, "none", none, origin, nil)
		one := dtree.New(a.at(origin))
		if one.Replace(b.at(origin), a.at(origin)) || one.Replace(b.at(origin), b.at(origin)) {
			t.Error("one that isn't there is replaced")
		}
		check(t, "one", one, origin, []thing{a})
		if !one.Replace(a.at(origin), b.at(origin)) {
			t.Error("the only one isn't replaced")
		}
		check(t, "another one", one, origin, []thing{b})
	}
}

func TestP7_1ReplaceChangesNoClone(t *testing.T) {
	l := crossed(9)
	x := dtree.New(items(end, l)...)
	c := x.Clone()
	for i, a := range l {
		if !x.Replace(a.at(end), whole(a.id, int64(20-i), 50).at(end)) {
			t.Fatalf("%+v isn't replaced", a.at(end))
		}
	}
	check(t, "a clone of what is changed", c, end, l)
}

func TestP7_1Shift(t *testing.T) {
	all := crowd()
	for n := range len(all) + 1 {
		for _, origin := range origins() {
			x := dtree.New(items(origin, all[:n])...)
			for _, by := range []vtime.Time{0, 1, end, half, 1 << 61, 12345678901234567} {
				s := x.Shift(by)
				check(t, "shifted", s, origin+by, all[:n])
				// Each of both goes its own way.
				for _, a := range all[:n/2] {
					s.Delete(a.at(origin + by))
				}
				s.Insert(whole(77, 3, 3).at(origin + by))
				check(t, "what was shifted", x, origin, all[:n])
				check(t, "shifted and changed", s, origin+by, append(slices.Clone(all[n/2:n]), whole(77, 3, 3)))
			}
		}
	}
}

func TestP7_1TheZeroTree(t *testing.T) {
	a := whole(1, 1, 9).at(end)
	everything := func(item.Item) bool { return true }
	var zero dtree.Tree
	for what, x := range map[string]dtree.Tree{"the zero tree": zero, "its clone": zero.Clone(), "it, shifted": zero.Shift(5)} {
		if x.Insert(a) || x.Replace(a, a) || x.Replace(a, whole(2, 1, 9).at(end)) || x.Delete(a) || x.Has(a) {
			t.Errorf("%s takes something in", what)
		}
		if x.Len() != 0 || x.Depth() != 0 || len(x.All()) != 0 {
			t.Errorf("%s holds something", what)
		}
		for _, f := range []func(func(item.Item) bool) (item.Item, bool){x.Soonest, x.Fold} {
			if got, ok := f(everything); ok || got != (item.Item{}) {
				t.Errorf("%s: the soonest is %+v, %v", what, got, ok)
			}
		}
		if got, ok := x.Min(); ok || got != (item.Item{}) {
			t.Errorf("%s: the least is %+v, %v", what, got, ok)
		}
	}
	// A tree of no items isn't the zero tree.
	for what, x := range map[string]dtree.Tree{"of none": dtree.New(), "its clone": dtree.New().Clone(), "it, shifted": dtree.New().Shift(5)} {
		if !x.Insert(a) || x.Len() != 1 || !x.Has(a) {
			t.Errorf("%s takes nothing in", what)
		}
	}
}

func TestP7_1ACopyStandsForTheSameTree(t *testing.T) {
	l := crossed(5)
	x := dtree.New(items(end, l[:3])...)
	y := x
	y.Insert(l[3].at(end))
	y.Replace(l[0].at(end), l[4].at(end))
	check(t, "a copy", x, end, l[1:])
}

func TestP7_2SoonestInAllOrders(t *testing.T) {
	// At one place, and one behind the other; due as they stand, the other way round, and all at once.
	for _, l := range [][]thing{
		{whole(1, 0, 5), whole(2, 1, 6), whole(3, 2, 7), whole(4, 3, 8), whole(5, 4, 9)},
		{whole(1, 0, 9), whole(2, 1, 8), whole(3, 2, 7), whole(4, 3, 6), whole(5, 4, 5)},
		{whole(5, 0, 9), whole(4, 1, 9), whole(3, 2, 9), whole(2, 3, 9), whole(1, 4, 9)},
		{whole(1, 0, 8), whole(2, 0, 9), whole(3, 0, 7), whole(4, 0, 9), whole(5, 0, 7)},
		{of(1, 3, 0, 1, 5, 2), of(2, 3, 0, 2, 5, 1), of(3, 2, 0, 1, 5, 1), of(4, 6, 0, 1, 5, 3), of(5, 6, 0, 2, 5, 3)},
	} {
		for _, come := range orders(5) {
			for n := range 6 {
				check(t, "in this order", dtree.New(items(end-2, picked(l, come[:n]))...), end-2, picked(l, come[:n]))
			}
		}
	}
}

func TestP7_2SoonestEdges(t *testing.T) {
	three := []thing{whole(1, 1, 9), whole(2, 2, 5), whole(3, 3, 4)}
	all := func(item.Item) bool { return true }
	none := func(item.Item) bool { return false }
	for _, c := range []struct {
		what string
		l    []thing
		in   func(item.Item) bool
		id   int
	}{
		{"below 3", three, func(a item.Item) bool { return a.Time < 3 }, 2},
		{"below 2", three, func(a item.Item) bool { return a.Time < 2 }, 1},
		{"all", three, all, 3},
		{"none", three, none, 0},
		{"all of none", nil, all, 0},
		{"none of none", nil, none, 0},
		{"all of one", three[:1], all, 1},
		{"none of one", three[:1], none, 0},
		{"one deadline, and places", []thing{whole(1, 2, 9), whole(2, 1, 9)}, all, 2},
		{"one deadline and place, and IDs", []thing{whole(3, 1, 9), whole(1, 1, 9), whole(2, 1, 9)}, all, 1},
		{"up to an ID at one place", []thing{whole(1, 1, 9), whole(2, 1, 8), whole(3, 1, 7)}, func(a item.Item) bool { return a.ID < 3 }, 2},
		{"up to what is left at one time", []thing{of(1, 3, 0, 0, 9, 0), of(2, 3, 0, 1, 8, 0), of(3, 3, 0, 2, 7, 0)}, func(a item.Item) bool { return a.R < 2 }, 2},
		{"as far apart as may be", []thing{whole(1, -1<<61, -1<<61+1<<60), whole(2, 1<<61, 1<<61)}, all, 1},
		{"far apart, and due the other way round", []thing{whole(1, -1<<60, 1), whole(2, -1, 0)}, all, 2},
	} {
		for _, come := range orders(len(c.l)) {
			x := dtree.New(items(0, picked(c.l, come))...)
			if got, ok := x.Soonest(c.in); got.ID != c.id || ok != (c.id != 0) || !ok && got != (item.Item{}) {
				t.Errorf("%s: the soonest is %+v, %v", c.what, got, ok)
			}
		}
	}
}

func TestP7_2SoonestChangesNothing(t *testing.T) {
	l := crossed(20)
	x := dtree.New(items(end, l)...)
	depth := x.Depth()
	for range 3 {
		check(t, "asked again", x, end, l)
	}
	if x.Depth() != depth {
		t.Error("its depth changes")
	}
}

// variants: things of which many are the same one, of another deadline, or another weight.
func variants() []thing {
	l := crowd()
	for _, a := range crowd() {
		due := new(big.Rat).Add(a.dead, big.NewRat(-1, int64(a.w)))
		if due.Cmp(a.place) >= 0 {
			l = append(l, thing{a.id, a.place, due, a.w})
		}
		if a.w <= mostW/2 {
			l = append(l, thing{a.id, a.place, new(big.Rat).Sub(a.dead, new(big.Rat).Mul(big.NewRat(1, 2), new(big.Rat).Sub(a.dead, due))), a.w * 2})
		}
	}
	return slices.DeleteFunc(l, func(a thing) bool { return a.dead.Cmp(a.place) < 0 })
}

func TestVariantsMayBe(t *testing.T) {
	for _, origin := range origins() {
		for _, a := range items(origin, append(variants(), crossed(200)...)) {
			if !a.Right() {
				t.Errorf("%+v may not be", a)
			}
		}
	}
}

func TestP7_3ComeGoAndReplace(t *testing.T) {
	next, all := chance(), variants()
	for _, origin := range origins() {
		x, held := dtree.New(), []thing(nil)
		for round := range 500 {
			a, b := all[next(len(all))], all[next(len(all))]
			at, other := holds(held, a), holds(held, b)
			var ok, wanted bool
			switch kind := next(8); {
			case kind < 2+round/100%3:
				if ok, wanted = x.Insert(a.at(origin)), at < 0; wanted {
					held = append(held, a)
				}
			case kind < 5:
				if ok, wanted = x.Delete(a.at(origin)), at >= 0; wanted {
					held = without(held, a)
				}
			default:
				if ok, wanted = x.Replace(a.at(origin), b.at(origin)), at >= 0 && (other < 0 || a.same(b)); wanted {
					held = append(without(held, a), b)
				}
			}
			if ok != wanted {
				t.Fatalf("it answers %v of %+v and %+v, when it holds %+v", ok, a.at(origin), b.at(origin), items(origin, held))
			}
			check(t, "then", x, origin, held)
			if round%50 == 0 {
				x = x.Clone()
			}
		}
	}
}

func TestP7_3NoneIsDueAhead(t *testing.T) {
	l := inOrder(crossed(200))
	for _, origin := range origins() {
		all := items(origin, l)
		x := dtree.New(all...)
		for n, last := range all {
			got, ok := x.Soonest(func(a item.Item) bool { return !last.Ahead(a) })
			if !ok || got != soonest(l[:n+1]).at(origin) {
				t.Fatalf("the soonest up to %+v is %+v, %v", last, got, ok)
			}
			if !slices.Contains(all[:n+1], got) || slices.ContainsFunc(all[:n+1], func(a item.Item) bool { return a.Due(got) }) {
				t.Fatalf("up to %+v %+v isn't one of these, or one of these is due ahead", last, got)
			}
		}
	}
}
