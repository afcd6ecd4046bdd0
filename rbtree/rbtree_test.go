package rbtree_test

import (
	"math"
	"slices"
	"strconv"
	"strings"
	"testing"

	"turnstone/item"
	"turnstone/pos"
	"turnstone/rbtree"
	"turnstone/vtime"
)

type tree = rbtree.Tree[int, string]

func less(a, b int) bool { return a < b }

func one(a int) string { return strconv.Itoa(a) + " " }

// join hangs on the order: what is joined the wrong way round, twice, or not at all can be told.
func join(a, b string) string { return a + b }

func numbers() *tree { return rbtree.New(less, one, join) }

func counted(l []int) string {
	var b strings.Builder
	for _, x := range l {
		b.WriteString(one(x))
	}
	return b.String()
}

func of(l ...int) *tree {
	t := numbers()
	for _, x := range l {
		t.Insert(x)
	}
	return t
}

func upTo(n int) []int {
	l := make([]int, n)
	for i := range l {
		l[i] = i
	}
	return l
}

// mixed: the numbers below n, without a pattern, but always the same.
func mixed(n int, seed uint64) []int {
	l := upTo(n)
	x := seed*2 + 88172645463325253
	for i := n - 1; i > 0; i-- {
		x ^= x << 13
		x ^= x >> 7
		x ^= x << 17
		j := int(x % uint64(i+1))
		l[i], l[j] = l[j], l[i]
	}
	return l
}

func falling(n int) []int {
	l := upTo(n)
	slices.Reverse(l)
	return l
}

// inward: from both ends to the middle.
func inward(n int) []int {
	var l []int
	for i := range n {
		if i%2 == 0 {
			l = append(l, i/2)
		} else {
			l = append(l, n-1-i/2)
		}
	}
	return l
}

func orders(n int) [][]int {
	outward := inward(n)
	slices.Reverse(outward)
	return [][]int{upTo(n), falling(n), inward(n), outward, mixed(n, 1), mixed(n, 2), mixed(n, 3)}
}

// checkDepth: not deeper than the document says, nor less deep than so many things can stand.
func checkDepth(t *testing.T, n, depth int) {
	t.Helper()
	if 1<<((depth+1)/2) > n+1 || 1<<depth <= n {
		t.Fatalf("of %d things the depth is %d", n, depth)
	}
}

// check holds a tree against the things that it should hold, in order; nothing lies between two numbers, nor outside from -1 to most.
func check(t *testing.T, x *tree, l []int, most int) {
	t.Helper()
	if got := x.All(); !slices.Equal(got, l) {
		t.Fatalf("all: %d, wanted %d", got, l)
	}
	if got := x.Len(); got != len(l) {
		t.Fatalf("of %d: the length is %d", l, got)
	}
	checkDepth(t, len(l), x.Depth())
	least, ok := x.Min()
	if len(l) == 0 && (ok || least != 0) || len(l) > 0 && (!ok || least != l[0]) {
		t.Fatalf("of %d: the least is %d, %v", l, least, ok)
	}
	for bound := -1; bound <= most; bound++ {
		i, is := slices.BinarySearch(l, bound)
		if x.Has(bound) != is {
			t.Fatalf("of %d: it has %d: %v", l, bound, x.Has(bound))
		}
		got, ok := x.Fold(func(a int) bool { return a < bound })
		if ok != (i > 0) || got != counted(l[:i]) {
			t.Fatalf("of %d: below %d it folds to %q, %v", l, bound, got, ok)
		}
	}
	got, ok := x.Fold(func(int) bool { return true })
	if ok != (len(l) > 0) || got != counted(l) {
		t.Fatalf("of %d: all fold to %q, %v", l, got, ok)
	}
}

// with and without are what a sorted list is then.
func with(l []int, x int) []int {
	i, _ := slices.BinarySearch(l, x)
	return slices.Insert(slices.Clone(l), i, x)
}

func without(l []int, x int) []int {
	return slices.DeleteFunc(slices.Clone(l), func(y int) bool { return x == y })
}

func TestP6_1ComeAndGoInAllOrders(t *testing.T) {
	const n = 33
	for _, come := range orders(n) {
		for _, leave := range orders(n) {
			x := numbers()
			var l []int
			check(t, x, nil, n)
			for _, a := range come {
				if !x.Insert(a) {
					t.Fatalf("%d isn't put into %d", a, l)
				}
				l = with(l, a)
				check(t, x, l, n)
			}
			for _, a := range leave {
				if !x.Delete(a) {
					t.Fatalf("%d isn't taken from %d", a, l)
				}
				l = without(l, a)
				check(t, x, l, n)
			}
		}
	}
}

// permutations: the numbers below n in each order.
func permutations(n int) [][]int {
	if n == 0 {
		return [][]int{nil}
	}
	var l [][]int
	for _, p := range permutations(n - 1) {
		for i := range n {
			l = append(l, slices.Insert(slices.Clone(p), i, n-1))
		}
	}
	return l
}

func TestP6_1ComeAndGoInEachOrder(t *testing.T) {
	for n := range 6 {
		for _, come := range permutations(n) {
			full := of(come...)
			check(t, full, upTo(n), n)
			for _, leave := range permutations(n) {
				x, l := full.Clone(), upTo(n)
				for _, a := range leave {
					if !x.Delete(a) {
						t.Fatalf("put in by %d, taken by %d: %d isn't taken", come, leave, a)
					}
					l = without(l, a)
					check(t, x, l, n)
				}
			}
		}
	}
}

func TestP6_1ComeAndGoMixed(t *testing.T) {
	const most = 48
	x := numbers()
	var l []int
	for round := range 60 {
		for i, a := range mixed(most, uint64(round)) {
			_, is := slices.BinarySearch(l, a)
			// It grows and shrinks by turns, and is empty now and again.
			if (i+round)%7 < 1+round%6 {
				if x.Insert(a) == is {
					t.Fatalf("%d put into %d: %v", a, l, !is)
				}
				if !is {
					l = with(l, a)
				}
			} else {
				if x.Delete(a) != is {
					t.Fatalf("%d taken from %d: %v", a, l, is)
				}
				l = without(l, a)
			}
			check(t, x, l, most)
		}
	}
}

func TestP6_1EmptyAgain(t *testing.T) {
	x := numbers()
	for n := range 12 {
		for _, a := range mixed(n, uint64(n)) {
			x.Insert(a)
		}
		check(t, x, upTo(n), n)
		for _, a := range mixed(n, 40+uint64(n)) {
			x.Delete(a)
		}
		check(t, x, nil, n)
		if x.Depth() != 0 || x.Delete(0) {
			t.Fatalf("%d things came and went, but it isn't empty", n)
		}
	}
}

func TestP6_1WhatIsRefusedChangesNothing(t *testing.T) {
	const n = 70
	for _, come := range orders(n) {
		var l []int
		x := numbers()
		for _, a := range come {
			x.Insert(2 * a)
			l = with(l, 2*a)
			depth := x.Depth()
			for _, b := range l {
				if x.Insert(b) || x.Delete(b+1) || x.Delete(b-1) {
					t.Fatalf("of %d: %d is put in again, or one beside it is taken", l, b)
				}
				// Of the same things a tree may stand in several ways, and the depth tells some of these.
				if x.Depth() != depth || x.Len() != len(l) {
					t.Fatalf("of %d: what was refused at %d changed it", l, b)
				}
			}
		}
		check(t, x, l, 2*n)
	}
}

type named struct {
	key  int
	name string
}

func names() *rbtree.Tree[named, string] {
	return rbtree.New(func(a, b named) bool { return a.key < b.key }, func(a named) string { return a.name }, join)
}

func TestP6_1TheSameThing(t *testing.T) {
	x := names()
	for _, a := range []named{{2, "b"}, {1, "a"}, {3, "c"}, {2, "B"}, {1, "A"}, {3, "C"}} {
		if got := x.Insert(a); got != (a.name >= "a") {
			t.Errorf("%v put in: %v", a, got)
		}
	}
	// The things that were there stay; what counts as the same thing takes them out.
	if got, _ := x.Fold(func(named) bool { return true }); got != "abc" || x.Len() != 3 {
		t.Errorf("it holds %v", x.All())
	}
	if !x.Has(named{2, "?"}) || !x.Delete(named{2, "?"}) || x.Has(named{2, "b"}) {
		t.Error("b isn't taken as the thing that it is")
	}
	if !x.Insert(named{2, "B"}) || !slices.Equal(x.All(), []named{{1, "a"}, {2, "B"}, {3, "c"}}) {
		t.Errorf("then it holds %v", x.All())
	}
	if a, ok := x.Min(); !ok || a != (named{1, "a"}) {
		t.Errorf("the least is %v", a)
	}
}

func TestP6_1Clone(t *testing.T) {
	for n := range 20 {
		for _, come := range orders(n) {
			x := of(come...)
			c := x.Clone()
			if c == x || c.Depth() != x.Depth() {
				t.Fatalf("of %d: the clone is no tree of its own, or stands otherwise", come)
			}
			check(t, c, upTo(n), n+2)
			for i, a := range come {
				if i%2 == 0 {
					x.Delete(a)
				} else {
					c.Delete(a)
				}
			}
			x.Insert(n)
			c.Insert(n + 1)
			var left, right []int
			for i, a := range come {
				if i%2 == 0 {
					right = with(right, a)
				} else {
					left = with(left, a)
				}
			}
			check(t, x, with(left, n), n+2)
			check(t, c, with(right, n+1), n+2)
			check(t, c.Clone(), with(right, n+1), n+2)
		}
	}
}

func TestP6_1OtherOrders(t *testing.T) {
	x := rbtree.New(func(a, b int) bool { return a > b }, one, join)
	for _, a := range mixed(30, 9) {
		x.Insert(a)
	}
	if least, _ := x.Min(); least != 29 || !slices.Equal(x.All(), falling(30)) {
		t.Errorf("falling: the least is %d, all %d", least, x.All())
	}
	// Just the tens count: all of the same ten are the same thing.
	tens := rbtree.New(func(a, b int) bool { return a/10 < b/10 }, one, join)
	for a := range 100 {
		if got := tens.Insert(a); got != (a%10 == 0) {
			t.Errorf("%d put in: %v", a, got)
		}
	}
	if !tens.Has(57) || !tens.Delete(57) || tens.Has(50) || tens.Len() != 9 {
		t.Errorf("tens: %d", tens.All())
	}
}

func TestP6_1TimesThatGoRound(t *testing.T) {
	const end = vtime.Time(math.MaxUint64)
	x := rbtree.New(vtime.Time.Before, func(u vtime.Time) int { return 1 }, func(a, b int) int { return a + b })
	var wanted []vtime.Time
	for i := range 40 {
		wanted = append(wanted, end-1<<61+vtime.Time(i)<<57)
	}
	for _, i := range mixed(40, 5) {
		if !x.Insert(wanted[i]) || x.Insert(wanted[i]) {
			t.Fatalf("%d put in, and once more", wanted[i])
		}
	}
	if least, ok := x.Min(); !ok || least != wanted[0] || !slices.Equal(x.All(), wanted) {
		t.Errorf("all: %d, wanted %d", x.All(), wanted)
	}
	for i, u := range wanted {
		n, ok := x.Fold(func(v vtime.Time) bool { return v.Before(u) })
		if n != i || ok != (i > 0) {
			t.Errorf("ahead of %d: %d, %v, wanted %d", u, n, ok, i)
		}
	}
	for _, i := range mixed(40, 6) {
		if !x.Delete(wanted[i]) || x.Has(wanted[i]) {
			t.Fatalf("%d taken", wanted[i])
		}
	}
}

// ofItems: items whose times go round, some alike in all but their ID.
func ofItems() []item.Item {
	var l []item.Item
	for i := range 32 {
		place, dead := vtime.Time(i/4)-4, vtime.Time(i*7%11)+4
		l = append(l, item.Item{Pos: pos.Pos{Time: place, R: uint32(i / 2 % 2), W: 2}, ID: i*13%32 + 1, Dead: pos.Pos{Time: dead, W: 2}})
	}
	return l
}

func TestP6_2FoldOfItems(t *testing.T) {
	l := ofItems()
	x := rbtree.New(item.Item.Ahead, func(a item.Item) item.Item { return a }, func(a, b item.Item) item.Item { return item.Soonest(a, b) })
	for _, i := range mixed(len(l), 3) {
		if !x.Insert(l[i]) {
			t.Fatalf("%+v isn't put in", l[i])
		}
	}
	slices.SortFunc(l, func(a, b item.Item) int {
		if a.Ahead(b) {
			return -1
		}
		return 1
	})
	for len(l) > 0 {
		if !slices.Equal(x.All(), l) {
			t.Fatalf("all: %+v, wanted %+v", x.All(), l)
		}
		for i, a := range l {
			got, ok := x.Fold(func(b item.Item) bool { return !a.Ahead(b) })
			if wanted := item.Soonest(l[0], l[1:i+1]...); !ok || got != wanted {
				t.Fatalf("up to %+v the soonest is %+v, wanted %+v", a, got, wanted)
			}
		}
		gone := l[len(l)*5%7%len(l)]
		x.Delete(gone)
		l = slices.DeleteFunc(l, func(a item.Item) bool { return a == gone })
	}
}

func TestP6_2FoldEdges(t *testing.T) {
	all := func(int) bool { return true }
	none := func(int) bool { return false }
	for _, c := range []struct {
		what   string
		x      *tree
		in     func(int) bool
		wanted string
		ok     bool
	}{
		{"all of none", numbers(), all, "", false},
		{"none of none", numbers(), none, "", false},
		{"all of one", of(5), all, "5 ", true},
		{"none of one", of(5), none, "", false},
		{"none of several", of(3, 1, 2), none, "", false},
		{"all of several", of(3, 1, 2), all, "1 2 3 ", true},
		{"the least", of(3, 1, 2), func(a int) bool { return a <= 1 }, "1 ", true},
		{"all but the greatest", of(3, 1, 2), func(a int) bool { return a < 3 }, "1 2 ", true},
		{"a bound that isn't there", of(10, 20, 30), func(a int) bool { return a < 25 }, "10 20 ", true},
		{"no function", of(3, 1, 2), nil, "", false},
	} {
		if got, ok := c.x.Fold(c.in); got != c.wanted || ok != c.ok {
			t.Errorf("%s: %q, %v, wanted %q, %v", c.what, got, ok, c.wanted, c.ok)
		}
	}
	// What counts nothing isn't nothing.
	x := rbtree.New(less, func(int) int { return 0 }, func(a, b int) int { return a + b })
	x.Insert(1)
	if n, ok := x.Fold(all); n != 0 || !ok {
		t.Errorf("one that counts 0: %d, %v", n, ok)
	}
	if n, ok := x.Fold(none); n != 0 || ok {
		t.Errorf("none of it: %d, %v", n, ok)
	}
}

func TestP6_2FoldIsAskedOfWhatIsThere(t *testing.T) {
	x := of(mixed(50, 4)...)
	for bound := range 51 {
		x.Fold(func(a int) bool {
			if !x.Has(a) {
				t.Fatalf("asked of %d, which isn't there", a)
			}
			return a < bound
		})
	}
}

func TestP6_2Depth(t *testing.T) {
	for _, c := range []struct {
		l      []int
		wanted int
	}{
		{nil, 0},
		{[]int{1}, 1},
		{[]int{1, 2}, 2},
		{[]int{2, 1}, 2},
		{[]int{3, 1, 2}, 2},
		{[]int{1, 2, 3}, 2},
		{[]int{3, 2, 1}, 2},
		{[]int{3, 1, 2, 4}, 3},
	} {
		if got := of(c.l...).Depth(); got != c.wanted {
			t.Errorf("depth of %d: %d, wanted %d", c.l, got, c.wanted)
		}
	}
}

func TestP6_2Nil(t *testing.T) {
	var x *tree
	if x.Len() != 0 || x.Depth() != 0 || x.Insert(1) || x.Delete(1) || x.Has(1) || len(x.All()) != 0 || x.Clone() != nil {
		t.Error("a nil tree answers something")
	}
	if least, ok := x.Min(); least != 0 || ok {
		t.Errorf("its least thing is %d, %v", least, ok)
	}
	for _, in := range []func(int) bool{nil, func(int) bool { return true }} {
		if a, ok := x.Fold(in); a != "" || ok {
			t.Errorf("it folds to %q, %v", a, ok)
		}
	}
}

func TestATreeWithoutItsFunctionsTakesNothingIn(t *testing.T) {
	for _, x := range []*tree{rbtree.New[int, string](nil, one, join), rbtree.New(less, nil, join), rbtree.New(less, one, nil)} {
		if x.Insert(1) || x.Len() != 0 || x.Has(1) || x.Delete(1) {
			t.Error("it takes something in")
		}
	}
}

func TestP6_3Depth(t *testing.T) {
	const n = 3000
	for _, come := range orders(n) {
		x := rbtree.New(less, func(int) int { return 1 }, func(a, b int) int { return a + b })
		for i, a := range come {
			x.Insert(a)
			checkDepth(t, i+1, x.Depth())
		}
		for _, leave := range orders(n)[:5] {
			y := x.Clone()
			for i, a := range leave[:n-1] {
				y.Delete(a)
				if i%7 == 0 || i > n-100 {
					checkDepth(t, n-1-i, y.Depth())
				}
			}
		}
	}
}

func lists() *rbtree.Tree[int, []int] {
	return rbtree.New(less, func(a int) []int { return []int{a} }, func(a, b []int) []int { return slices.Concat(a, b) })
}

func TestAnswersAreNewMemory(t *testing.T) {
	x := lists()
	for _, a := range mixed(20, 8) {
		x.Insert(a)
	}
	c := x.Clone()
	for bound := range 21 {
		in := func(a int) bool { return a < bound }
		spoilt, _ := x.Fold(in)
		for i := range spoilt {
			spoilt[i] = -1
		}
		for _, y := range []*rbtree.Tree[int, []int]{x, c} {
			if got, _ := y.Fold(in); !slices.Equal(got, upTo(bound)) {
				t.Fatalf("below %d: %d, when an answer was written over", bound, got)
			}
		}
	}
	spoilt := x.All()
	clear(spoilt)
	if !slices.Equal(x.All(), upTo(20)) || !slices.Equal(c.All(), upTo(20)) {
		t.Errorf("all: %d, when an answer was written over", x.All())
	}
}
