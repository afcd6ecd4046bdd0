package bound_test

import (
	"math"
	"math/big"
	"slices"
	"testing"

	"turnstone/account"
	"turnstone/api"
	"turnstone/bound"
	"turnstone/limits"
	"turnstone/table"
	"turnstone/wide"
)

// wrongCores are of no core, in whatever book.
func wrongCores() []int {
	return []int{math.MinInt, -1 << 32, -1, mostCores, 33, 1 << 32, math.MaxInt}
}

// someTicks: the edges of what a tick may be among them.
func someTicks() []uint64 {
	return []uint64{0, 1, 2, 3, 4, 9, 90, 475, 476, 2000, 2001, 1 << 20, mostTick - 1, mostTick, mostTick + 1, 1 << 44, 1 << 60, 1<<63 - 1, 1 << 63, math.MaxUint64}
}

// laid is a book from an origin on: on the core 0 the task 1 lingers, owing 2 nanoseconds, and 2, of which 9 are left, is owed them; 3 is alone on the core 1; nobody is on the core 2.
func laid(t *testing.T, origin uint64) *account.Book {
	t.Helper()
	return bookOf(t, small(origin), spawns(0, 1, 5), spawns(0, 1, 9), spawns(1, 3, 4), ticks(4), sleeps(1))
}

// parted is a book in which 1, of which but 1 nanosecond is left, is owed 475.5, and 2 owes as much; 3 is alone elsewhere.
func parted(t *testing.T, origin uint64) *account.Book {
	t.Helper()
	return bookOf(t, small(origin), spawns(0, 1, 50), spawns(0, 1, 1000), spawns(1, 1, 50), ticks(49), ticks(1000))
}

func TestP27_1Window(t *testing.T) {
	for _, origin := range origins() {
		b := laid(t, origin)
		for _, c := range []struct {
			k      int
			tick   uint64
			window int64
		}{
			{0, 0, 4}, {0, 1, 4 + grain}, {0, 7, 4 + 7*grain}, {0, mostTick - 1, 4 + (mostTick-1)*grain}, {0, mostTick, 4 + mostTick*grain},
			{1, 0, 2}, {1, 1, 2 + grain}, {1, mostTick, 2 + mostTick*grain},
			{2, 0, 0}, {2, 1, grain}, {2, mostTick, mostTick * grain},
		} {
			if got, e := bound.Window(b, c.k, c.tick); got != wide.Of(c.window) || e != api.OK {
				t.Errorf("of a tick of %d the window of the core %d is %v, %d, wanted %d", c.tick, c.k, got, e, c.window)
			}
		}
		for _, tick := range someTicks() {
			checkTick(t, b, tick)
		}
	}
	// What goes at last is carried, too: half a nanosecond.
	b := bookOf(t, small(0), spawns(0, 1, 5), spawns(0, 1, 9), spawns(1, 3, 4), ticks(4), sleeps(1), ticks(5))
	if got, e := bound.Window(b, 0, 3); got != wide.Of(4+grain/2+2+3*grain) || e != api.OK {
		t.Errorf("the window is %v, %d", got, e)
	}
}

func TestP27_1WindowErrors(t *testing.T) {
	isError := func(b *account.Book, k int, tick uint64, wanted api.Errno) {
		t.Helper()
		if got, e := bound.Window(b, k, tick); got != (wide.Int{}) || e != wanted {
			t.Errorf("of the core %d, and a tick of %d, there is told %v, %d, wanted %d", k, tick, got, e, wanted)
		}
	}
	for _, tick := range someTicks() {
		for _, k := range append(wrongCores(), 0, 1, 2) {
			isError(nil, k, tick, api.ErrNil)
		}
		for _, k := range append(wrongCores(), 3, 4) {
			isError(laid(t, 0), k, tick, api.ErrCore)
		}
		if tick > mostTick {
			for k := range 3 {
				isError(laid(t, 0), k, tick, api.ErrRange)
			}
		}
	}
	// Of a tick there is asked whether one may be, not whether the configuration has it.
	b := bookOf(t, limits.Config{Cores: mostCores, Tasks: 1, Tick: 1, Slice: 1}, spawns(mostCores-1, 1, 1))
	for _, tick := range someTicks() {
		checkTick(t, b, tick)
	}
}

func TestP27_1WindowThatIsNoWideNumber(t *testing.T) {
	b := laid(t, 0)
	for _, tick := range []uint64{0, 1, 3, mostTick - 1, mostTick} {
		grains := wide.Of(int64(tick) * grain)
		for _, off := range []int64{-1, 0, 1, 7} {
			edge, _ := greatest().Sub(grains)
			carried, ok := edge.Add(wide.Of(off))
			if !ok {
				continue
			}
			wanted := greatest()
			if off < 0 {
				wanted.Lo--
			}
			setCarried(b, 1, carried)
			if got, e := bound.Window(b, 1, tick); got != wanted || e != api.OK {
				t.Errorf("of a tick of %d, and %v carried, the window is %v, %d, wanted %v", tick, carried, got, e, wanted)
			}
			checkTick(t, b, tick)
		}
	}
	setCarried(b, 0, greatest())
	for _, tick := range someTicks() {
		checkTick(t, b, tick)
	}
}

func TestP27_1Low(t *testing.T) {
	for _, origin := range origins() {
		b := laid(t, origin)
		isUnfair(t, b, 0, []int{1}, nil)
		isUnfair(t, b, 1, []int{1}, nil)
		isUnfair(t, b, 2, nil, nil)
		// Just so much below 0 is none less than that.
		for _, c := range []struct {
			carried, tick uint64
			low           []int
		}{
			{2*grain - 1, 0, []int{1}}, {2 * grain, 0, nil}, {2*grain + 1, 0, nil},
			{grain - 1, 1, []int{1}}, {grain, 1, nil}, {grain + 1, 1, nil},
			{0, 1, []int{1}}, {0, 2, nil}, {0, mostTick, nil},
		} {
			setCarried(b, 0, wide.OfU(c.carried))
			isUnfair(t, b, c.tick, c.low, nil)
			checkTick(t, b, c.tick)
		}
	}
}

func TestP27_1High(t *testing.T) {
	for _, origin := range origins() {
		b := parted(t, origin)
		for _, tick := range []uint64{0, 1, 474, 475} {
			isUnfair(t, b, tick, []int{2}, []int{1})
		}
		for _, tick := range []uint64{476, 477, 1000, mostTick} {
			isUnfair(t, b, tick, nil, nil)
		}
		const lag = 951 * grain / 2
		for _, c := range []struct {
			carried   uint64
			low, high []int
		}{
			{0, []int{2}, []int{1}}, {lag - 1, []int{2}, []int{1}}, {lag, nil, nil}, {lag + 1, nil, nil},
		} {
			setCarried(b, 0, wide.OfU(c.carried))
			isUnfair(t, b, 0, c.low, c.high)
			checkTick(t, b, 0)
		}
	}
}

func TestP27_1HighAsksWhatIsLeft(t *testing.T) {
	for _, origin := range origins() {
		// 1 has 10 nanoseconds left, and waits for so many others.
		for _, c := range []struct {
			ns   uint64
			high []int
		}{{59, nil}, {60, nil}, {61, []int{1}}, {62, []int{1}}} {
			b := bookOf(t, small(origin), spawns(0, 1, 50), spawns(0, 1, 1000), ticks(40), ticks(c.ns))
			isUnfair(t, b, 9, []int{2}, c.high)
			isUnfair(t, b, 0, []int{2}, c.high)
			isUnfair(t, b, 12, nil, nil)
			checkTick(t, b, 9)
			// What the next one will have doesn't count.
			if e := b.Slice(1, 2000); e != api.OK {
				t.Fatal(e)
			}
			isUnfair(t, b, 9, []int{2}, c.high)
			b.Slice(1, 1)
			isUnfair(t, b, 9, []int{2}, c.high)
		}
	}
}

// Once who lingers is owed something it goes; so it is put there by hand.
func TestP27_1HighTellsNobodyWhoLingers(t *testing.T) {
	b := parted(t, 0)
	x, _ := b.Task(1)
	x.State = table.Lingering
	b.Set(x)
	coreAt(b, 0).Rouse(1, true)
	isUnfair(t, b, 1, []int{2}, nil)
}

func TestP27_1WhoSleepsIsFair(t *testing.T) {
	// 1 went, owed something, and 2 goes, owing something: both lags are kept.
	b := bookOf(t, small(0), spawns(0, 1, 50), spawns(0, 1, 1000), ticks(49), ticks(1000), sleeps(1))
	do(t, b, spawns(0, 1, 1000), sleeps(2), spawns(1, 1, 9), ticks(1))
	if e := b.Migrate(2, 1); e != api.OK {
		t.Fatal(e)
	}
	first, _ := b.Lag(1)
	second, _ := b.Lag(2)
	if first.Sign() <= 0 || second.Sign() > 0 {
		t.Fatalf("%v, %v, of %+v", first, second, b.Tasks())
	}
	for k := range 3 {
		setCarried(b, k, wide.Of(0))
	}
	if got := bound.Unfair(b, 0, b.States(table.Sleeping)...); len(got) != 0 {
		t.Errorf("of those who sleep %v are unfair", got)
	}
	checkTick(t, b, 0)
	// Of one that owes something.
	b = laid(t, 0)
	do(t, b, migrates(1, 1))
	if lag, _ := b.Lag(1); lag != wide.Of(-2*grain) {
		t.Fatalf("of %+v", b.Tasks())
	}
	setCarried(b, 0, wide.Of(0))
	setCarried(b, 1, wide.Of(0))
	isUnfair(t, b, 0, nil, nil)
}

func do(t *testing.T, b *account.Book, l ...step) {
	t.Helper()
	for i, x := range l {
		if _, e := x(b); e != api.OK {
			t.Fatalf("the step %d, of %+v: %d", i, b.Tasks(), e)
		}
	}
}

func TestP27_1EachOfTheWindowOfItsCore(t *testing.T) {
	b := bookOf(t, small(0), spawns(0, 1, 50), spawns(1, 1, 50), spawns(1, 1, 1000), spawns(0, 1, 1000), spawns(2, 1, 1000), spawns(2, 1, 50), ticks(49), ticks(1000))
	isUnfair(t, b, 0, []int{3, 4, 5}, []int{1, 2, 6})
	const far = 1 << 40
	for k, c := range [][2][]int{{{3, 5}, {2, 6}}, {{4, 5}, {1, 6}}, {{3, 4}, {1, 2}}} {
		x, _ := b.Core(k)
		setCarried(b, k, wide.Of(far))
		isUnfair(t, b, 0, c[0], c[1])
		checkTick(t, b, 0)
		setCarried(b, k, x.Carried())
	}
}

func TestP27_1Nobody(t *testing.T) {
	for _, origin := range origins() {
		for _, c := range []limits.Config{small(origin), {Cores: 1, Tasks: 1, Tick: 1, Slice: 1}, {Cores: mostCores, Tasks: mostTasks, Tick: mostTick, Slice: mostSlice, Origin: origin}} {
			b := bookOf(t, c)
			for range 2 {
				for _, tick := range someTicks() {
					isUnfair(t, b, tick, nil, nil)
					checkTick(t, b, tick)
				}
				do(t, b, ticks(1))
			}
		}
	}
}

func TestP27_1TicksThatMayNotBe(t *testing.T) {
	b := parted(t, 0)
	for _, tick := range someTicks() {
		checkTick(t, b, tick)
		if tick > mostTick {
			isUnfair(t, b, tick, nil, nil)
			setCarried(b, 0, wide.Int{Hi: -1 << 40})
			isUnfair(t, b, tick, nil, nil)
			setCarried(b, 0, wide.Of(0))
		}
	}
}

func TestP27_1Nil(t *testing.T) {
	for _, tick := range someTicks() {
		low, high, unfair := bound.Low(nil, tick), bound.High(nil, tick), bound.Unfair(nil, tick, 1, 2, 0, -1)
		if len(low)+len(high)+len(unfair) != 0 {
			t.Errorf("of nil, and a tick of %d, there are told %v, %v, %v", tick, low, high, unfair)
		}
	}
}

func TestP27_1Unfair(t *testing.T) {
	b := parted(t, 0)
	for _, c := range []struct{ ids, unfair []int }{
		{nil, nil}, {[]int{}, nil},
		{[]int{1}, []int{1}}, {[]int{2}, []int{2}}, {[]int{3}, nil},
		{[]int{1, 2}, []int{1, 2}}, {[]int{2, 1}, []int{2, 1}},
		{[]int{2, 3, 1, 1, 2, 2}, []int{2, 1, 1, 2, 2}},
		{[]int{0, -1, 4, 6, 7, 32, 33, math.MaxInt, math.MinInt}, nil},
		{[]int{4, 2, -1}, []int{2}},
		{slices.Repeat([]int{1, 3}, 500), slices.Repeat([]int{1}, 500)},
	} {
		if got := bound.Unfair(b, 475, c.ids...); !slices.Equal(got, c.unfair) {
			t.Errorf("of %v %v are unfair, wanted %v", c.ids, got, c.unfair)
		}
		if got := bound.Unfair(b, 476, c.ids...); len(got) != 0 {
			t.Errorf("of %v %v are unfair", c.ids, got)
		}
	}
	// Where somebody is short, and nobody ahead.
	b = laid(t, 0)
	if got := bound.Unfair(b, 1, 3, 2, 1, 1); !slices.Equal(got, []int{1, 1}) {
		t.Errorf("%v are unfair", got)
	}
}

func TestP27_1WhatIsHandedInStays(t *testing.T) {
	b := parted(t, 0)
	ids := []int{3, 1, 4, 2, 1, 7, 8, 9}
	bound.Unfair(b, 1, ids[:5]...)
	bound.Unfair(b, 1, ids[:0]...)
	bound.Unfair(nil, 1, ids[:5]...)
	bound.Unfair(b, 1<<41, ids[:5]...)
	if !slices.Equal(ids, []int{3, 1, 4, 2, 1, 7, 8, 9}) {
		t.Errorf("the IDs, or what is beside them, are %v now", ids)
	}
}

func TestP27_1AnswersAreNewMemory(t *testing.T) {
	b := parted(t, 0)
	ids := []int{2, 1, 2}
	for _, ask := range []func() []int{
		func() []int { return bound.Low(b, 1) },
		func() []int { return bound.High(b, 1) },
		func() []int { return bound.Unfair(b, 1, ids...) },
	} {
		one, other := ask(), ask()
		were := slices.Clone(other)
		clear(one[:cap(one)])
		if !slices.Equal(other, were) || !slices.Equal(ask(), were) || !slices.Equal(ids, []int{2, 1, 2}) {
			t.Errorf("%v is %v now", were, other)
		}
		clear(ids)
		if !slices.Equal(other, were) {
			t.Errorf("%v is %v now", were, other)
		}
		copy(ids, []int{2, 1, 2})
		do(t, b, spawns(0, 1, 1))
		if !slices.Equal(other, were) {
			t.Errorf("%v is %v now", were, other)
		}
		do(t, b, exits(4))
	}
}

// Whatever is asked, the book goes on as one that is asked nothing.
func TestP27_1AskingChangesNothing(t *testing.T) {
	for seed := range 8 {
		first, then := chance(300+seed), chance(300+seed)
		c := configOf(chance(seed), seed%2)
		asked, left := bookOf(t, c), bookOf(t, c)
		weight, length := lengthsOf(first, seed%2, c)
		weightToo, lengthToo := lengthsOf(then, seed%2, c)
		for range 60 {
			_, e := stepOf(first, c, weight, length)(asked)
			_, f := stepOf(then, c, weightToo, lengthToo)(left)
			for _, tick := range []uint64{0, 1, c.Tick, mostTick + 1} {
				checkTick(t, asked, tick)
			}
			if e != f || !slices.Equal(asked.Tasks(), left.Tasks()) || !slices.Equal(asked.Runs(), left.Runs()) {
				t.Fatalf("%d: of %+v, wanted %d, %+v", e, asked.Tasks(), f, left.Tasks())
			}
		}
	}
}

// edges are the ticks of which somebody is just unfair, or just isn't yet.
func edges(b *account.Book) []uint64 {
	var l []uint64
	for _, x := range b.Tasks() {
		lag, _ := b.Lag(x.ID)
		c, _ := b.Core(x.Core)
		far := new(big.Int).Sub(new(big.Int).Abs(bigOf(lag)), bigOf(c.Carried()))
		ns := far.Div(far, big.NewInt(grain)).Int64()
		if ns >= 0 {
			l = append(l, uint64(ns), uint64(ns)+1)
		}
	}
	return l
}

func TestP27_2WhateverIsDone(t *testing.T) {
	told := map[api.Errno]int{}
	short, ahead := 0, 0
	for seed := range 60 {
		next := chance(seed)
		kind := seed % 3
		c := configOf(next, kind)
		w := walkOf(t, c)
		weight, length := lengthsOf(next, kind, c)
		for range 100 {
			told[w.goes(t, stepOf(next, c, weight, length))]++
			for _, tick := range edges(w.b) {
				checkTick(t, w.b, tick)
				short += len(bound.Low(w.b, tick))
				ahead += len(bound.High(w.b, tick))
			}
		}
	}
	for _, e := range []api.Errno{api.ErrRange, api.ErrTask, api.ErrCore, api.ErrState, api.ErrFull} {
		if told[e] < 10 {
			t.Errorf("of the errors %d there were %d", e, told[e])
		}
	}
	if short < 500 || ahead < 100 {
		t.Errorf("%d were short, and %d ahead", short, ahead)
	}
}

// owing are steps behind which on the second core 2 runs, and some more sleep, from 3 on, each of the weight 1, and owing nearly as much as a whole tick.
func owing(n int) []step {
	l := []step{spawns(0, mostW, mostSlice), spawns(1, 1, mostSlice)}
	for id := 3; id < 3+n; id++ {
		// The first one is due first, but had more than its share by a nanosecond.
		l = append(l, spawns(0, 1, mostSlice), ticks(1), ticks(mostTick), sleeps(id), migrates(id, 1))
	}
	return l
}

func TestP27_2FarApart(t *testing.T) {
	told := map[api.Errno]int{}
	for seed := range 12 {
		next := chance(700 + seed)
		c := limits.Config{Cores: 3, Tasks: 12, Tick: mostTick, Slice: mostSlice, Origin: origins()[seed%4]}
		w := walkOf(t, c, owing(6)...)
		weight, length := lengthsOf(next, 1+next(2), c)
		for range 60 {
			x := wakes(3 + next(6))
			switch next(8) {
			case 0:
				x = stepOf(next, c, weight, length)
			case 1:
				x = weighs(3+next(6), 1+uint64(next(2)))
			case 2:
				x = migrates(3+next(6), 1+next(2))
			case 3:
				x = sleeps(3 + next(6))
			}
			told[w.goes(t, x)]++
		}
	}
	if told[api.ErrSpread] < 10 || told[api.OK] < 100 {
		t.Errorf("there were %v", told)
	}
}

// The bound is one that is come near to: of a tick that is less by a nanosecond somebody is short.
func TestP27_2NearTheBound(t *testing.T) {
	for _, ns := range []uint64{3, 1000, mostW / 4} {
		w := walkOf(t, limits.Config{Cores: 1, Tasks: 2, Tick: ns, Slice: mostSlice}, spawns(0, 1, ns), spawns(0, mostW, mostSlice))
		w.goes(t, ticks(ns))
		if low := bound.Low(w.b, ns-1); !slices.Equal(low, []int{1}) {
			t.Errorf("of a tick of %d %v are short", ns-1, low)
		}
	}
}

// All that is told hangs on no Origin.
func TestP27_2NoOrigin(t *testing.T) {
	for seed := range 9 {
		var first [][]int
		for i, origin := range origins() {
			next := chance(400 + seed)
			c := configOf(next, seed%3)
			c.Origin = origin
			w := walkOf(t, c)
			weight, length := lengthsOf(next, seed%3, c)
			var told [][]int
			for range 60 {
				w.goes(t, stepOf(next, c, weight, length))
				for tick := range uint64(3) {
					told = append(told, bound.Low(w.b, tick), bound.High(w.b, tick))
				}
			}
			if i == 0 {
				first = told
			}
			if !slices.EqualFunc(told, first, slices.Equal) {
				t.Fatalf("from %d there is told another thing than from 0", origin)
			}
		}
	}
}
