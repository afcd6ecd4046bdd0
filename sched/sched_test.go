package sched_test

import (
	"math"
	"slices"
	"testing"

	"turnstone/api"
	"turnstone/limits"
	"turnstone/sched"
	"turnstone/table"
	"turnstone/vtime"
	"turnstone/wide"
)

// small is a configuration of small numbers.
func small(origin uint64) limits.Config {
	return limits.Config{Cores: 2, Tasks: 5, Tick: 9, Slice: 20, Origin: origin}
}

func great(origin uint64) limits.Config {
	return limits.Config{Cores: 3, Tasks: mostTasks, Tick: mostTick, Slice: mostSlice, Origin: origin}
}

func TestP21_1New(t *testing.T) {
	for _, origin := range origins() {
		for _, c := range []limits.Config{
			small(origin), great(origin),
			{Cores: 1, Tasks: 1, Tick: 1, Slice: 1, Origin: origin},
			{Cores: mostCores, Tasks: mostTasks, Tick: 5, Slice: 7, Origin: origin},
		} {
			p := newPair(t, c)
			p.check(t)
			if got := p.s.Runs(); len(got) != c.Cores || slices.Max(got) != 0 || slices.Min(got) != 0 {
				t.Errorf("of a new system there run %v", got)
			}
			if len(p.s.Tasks()) != 0 || p.s.Config() != c {
				t.Errorf("a new system of %+v isn't new", c)
			}
			for k := range c.Cores {
				if got, e := p.s.Core(k); e != api.OK || got.Len() != 0 || got.Now() != vtime.Time(origin) {
					t.Errorf("the core %d is %+v, %d", k, got, e)
				}
			}
			// No two share anything.
			other, _ := sched.New(c)
			other.Spawn(0, 1, 1)
			p.check(t)
		}
	}
}

func TestP21_1NewErrors(t *testing.T) {
	for _, c := range []limits.Config{
		{},
		{Cores: 0, Tasks: 1, Tick: 1, Slice: 1},
		{Cores: -1, Tasks: 1, Tick: 1, Slice: 1},
		{Cores: math.MinInt, Tasks: 1, Tick: 1, Slice: 1},
		{Cores: mostCores + 1, Tasks: 1, Tick: 1, Slice: 1},
		{Cores: math.MaxInt, Tasks: 1, Tick: 1, Slice: 1},
		{Cores: 1, Tasks: 0, Tick: 1, Slice: 1},
		{Cores: 1, Tasks: -1, Tick: 1, Slice: 1},
		{Cores: 1, Tasks: mostTasks + 1, Tick: 1, Slice: 1},
		{Cores: 1, Tasks: math.MaxInt, Tick: 1, Slice: 1},
		{Cores: 1, Tasks: 1, Tick: 0, Slice: 1},
		{Cores: 1, Tasks: 1, Tick: mostTick + 1, Slice: 1},
		{Cores: 1, Tasks: 1, Tick: 1, Slice: 0},
		{Cores: 1, Tasks: 1, Tick: 1, Slice: mostSlice + 1},
		{Cores: 1, Tasks: 1, Tick: math.MaxUint64, Slice: math.MaxUint64, Origin: 5},
	} {
		if s, e := sched.New(c); s != nil || e != api.ErrRange {
			t.Errorf("of %+v: %v, %d", c, s, e)
		}
	}
}

func TestP21_1Clone(t *testing.T) {
	for _, origin := range origins() {
		p := pairOf(t, small(origin), spawns(0, 1, 5), spawns(0, 2, 7), spawns(1, 1, 3), ticks(4), sleeps(1))
		for _, l := range [][2]turn{
			{spawns(1, 2, 3), spawns(0, 5, 1)},
			{ticks(5), sleeps(2)},
			{weighs(2, 8), slicesTo(3, 7)},
			{migrates(2, 1), migrates(3, 0)},
			{exits(3), exits(2)},
		} {
			c := p.clone()
			c.check(t)
			if c.s == p.s || c.s.Table == p.s.Table {
				t.Fatal("a clone is the system itself, or has its table")
			}
			// Each goes on by itself.
			p.take(t, l[0])
			c.check(t)
			c.take(t, l[1])
			p.check(t)
			c.take(t, l[0])
			p.check(t)
			p.take(t, l[1])
			c.check(t)
		}
	}
}

func TestP21_1Core(t *testing.T) {
	for _, origin := range origins() {
		p := pairOf(t, small(origin), spawns(0, 1, 5), spawns(1, 3, 7), spawns(1, 1, 9), ticks(4))
		for k := range 2 {
			c, e := p.s.Core(k)
			if e != api.OK || c.Run() != p.s.Runs()[k] || c.Len() != k+1 {
				t.Errorf("the core %d is %+v, %d", k, c, e)
			}
			// A clone: nothing that is done to it is done to the system.
			c.Tick(9)
			c.Join(9, 1, 1, 0)
			c.Leave(k + 1)
			p.check(t)
		}
		for _, k := range []int{-1, 2, 3, mostCores, math.MinInt, math.MaxInt, 1 << 32} {
			if c, e := p.s.Core(k); c != nil || e != api.ErrCore {
				t.Errorf("the core %d is %v, %d", k, c, e)
			}
		}
	}
}

func TestP21_1Lag(t *testing.T) {
	for _, origin := range origins() {
		p := pairOf(t, small(origin), spawns(0, 1, 5), spawns(0, 1, 5), ticks(4))
		lag := func(id int, wanted int64) {
			t.Helper()
			if got, e := p.s.Lag(id); got != wide.Of(wanted) || e != api.OK {
				t.Errorf("of %d in %+v: %v, %d, wanted %d", id, p.s.Tasks(), got, e, wanted)
			}
		}
		// At 4 and 0 nanoseconds.
		lag(1, -2*grain)
		lag(2, 2*grain)
		p.all(t, sleeps(1))
		lag(1, -2*grain)
		p.all(t, ticks(3))
		lag(1, -grain/2)
		lag(2, grain/2)
		// Sleeping it is what was kept, however far the others go.
		p.all(t, sleeps(2))
		if p.task(1).State != table.Sleeping || p.task(2).State != table.Sleeping {
			t.Fatalf("%+v", p.s.Tasks())
		}
		lag(1, 0)
		lag(2, grain/2)
		p.all(t, spawns(0, 1, 5), ticks(9))
		lag(2, grain/2)
		for _, id := range []int{0, -1, 4, 5, 6, mostTasks, math.MinInt, math.MaxInt} {
			if got, e := p.s.Lag(id); got != (wide.Int{}) || e != api.ErrTask {
				t.Errorf("of %d: %v, %d", id, got, e)
			}
		}
	}
}

func TestP21_1Nil(t *testing.T) {
	var s *sched.System
	if s.Clone() != nil || s.Config() != (limits.Config{}) || len(s.Runs()) != 0 {
		t.Error("of nil something is told")
	}
	for _, n := range []int{0, 1, -1, math.MaxInt} {
		if c, e := s.Core(n); c != nil || e != api.ErrNil {
			t.Errorf("of nil the core %d is %v, %d", n, c, e)
		}
		if lag, e := s.Lag(n); lag != (wide.Int{}) || e != api.ErrNil {
			t.Errorf("of nil the lag is %v, %d", lag, e)
		}
	}
	// Whatever else is wrong.
	for kind := range kinds {
		for _, x := range []turn{{kind: kind}, {kind: kind, id: 1, w: 1, ns: 1}, {kind: kind, id: -1, core: -1, w: mostW + 1, ns: mostTick + 1}} {
			if a := x.take(s); !a.same(answer{e: api.ErrNil}) {
				t.Errorf("of nil, %+v: %+v", x, a)
			}
		}
	}
}

func TestP21_1Events(t *testing.T) {
	for _, origin := range origins() {
		// On the first core 2 lingers; on the second one 4 does.
		p := pairOf(t, small(origin),
			spawns(0, 1, 4), spawns(0, 1, 2), spawns(0, 1, 2),
			spawns(1, 1, 3), spawns(1, 1, 3),
			ticks(5), sleeps(2), sleeps(4))
		if p.task(2).State != table.Lingering || p.task(4).State != table.Lingering {
			t.Fatalf("%+v", p.s.Tasks())
		}
		a := p.do(t, ticks(6), api.OK)
		wanted := []sched.Event{
			{Core: 0, ID: 1, Ns: 3, Done: true}, {Core: 0, ID: 3, Ns: 2, Done: true}, {Core: 0, ID: 3, Ns: 1},
			{Core: 0, ID: 2, Gone: true},
			{Core: 1, ID: 5, Ns: 1, Done: true}, {Core: 1, ID: 5, Ns: 3, Done: true}, {Core: 1, ID: 5, Ns: 2},
			{Core: 1, ID: 4, Gone: true},
		}
		if !slices.Equal(a.events, wanted) {
			t.Errorf("%+v, wanted %+v", a.events, wanted)
		}
		if p.task(2).State != table.Sleeping || p.task(4).State != table.Sleeping {
			t.Errorf("who went is %+v, %+v", p.task(2), p.task(4))
		}
	}
}

func TestP21_1AnswersAreNewMemory(t *testing.T) {
	p := pairOf(t, small(0), spawns(0, 1, 5), spawns(0, 1, 5), spawns(1, 1, 4), ticks(4))
	c := p.clone()
	a, b := p.do(t, ticks(9), api.OK), c.do(t, ticks(9), api.OK)
	kept := slices.Clone(b.events)
	clear(a.events)
	_ = append(a.events[:1], sched.Event{ID: 9})
	runs := p.s.Runs()
	clear(runs)
	_ = append(runs[:1], 9)
	tasks := p.s.Tasks()
	clear(tasks)
	p.check(t)
	c.check(t)
	if !slices.Equal(b.events, kept) {
		t.Error("two answers share something")
	}
}

func TestP21_1TheTableIsTheSystemsOwn(t *testing.T) {
	// Who has the table is told what is now, also behind a call that was refused.
	p := newPair(t, small(0))
	tasks := p.s.Table
	for _, x := range []turn{spawns(0, 1, 5), spawns(0, 2, 5), spawns(0, 0, 5), ticks(6), sleeps(1), sleeps(1), weighs(2, 7), exits(1)} {
		p.take(t, x)
		if !slices.Equal(tasks.Tasks(), p.s.Tasks()) {
			t.Errorf("behind %+v the table has %+v, wanted %+v", x, tasks.Tasks(), p.s.Tasks())
		}
	}
}

func TestP21_2Spawn(t *testing.T) {
	for _, origin := range origins() {
		p := newPair(t, small(origin))
		for i, x := range []turn{spawns(1, 3, 5), spawns(0, mostW, 20), spawns(1, 1, 1)} {
			a := p.do(t, x, api.OK)
			wanted := table.Task{ID: i + 1, State: table.Runnable, Core: x.core, W: uint32(x.w), Slice: x.ns}
			if a.id != i+1 || len(a.events) != 0 || p.task(i+1) != wanted {
				t.Errorf("%+v: %+v, it is %+v", x, a, p.task(i+1))
			}
		}
		// The least ID that is free.
		p.all(t, exits(2), exits(1))
		for _, id := range []int{1, 2, 4, 5} {
			if a := p.do(t, spawns(0, 1, 5), api.OK); a.id != id {
				t.Errorf("%d came, wanted %d", a.id, id)
			}
		}
	}
}

func TestP21_2SpawnsWithTheLagNought(t *testing.T) {
	for _, origin := range origins() {
		p := pairOf(t, small(origin), spawns(0, 1, 5), spawns(0, 1, 7), ticks(4))
		// Of who had the ID ahead of it nothing stays, though that slept owing.
		p.all(t, spawns(0, 1, 3), sleeps(1), migrates(1, 1), exits(1), spawns(0, 1, 9))
		if lag, _ := p.s.Lag(1); lag != wide.Of(0) || p.task(1).Lag != 0 {
			t.Errorf("its lag is %v, it is %+v", lag, p.task(1))
		}
		// At the virtual time of the others.
		c, _ := p.s.Core(0)
		r, _ := c.Req(1)
		if r.Left != 9 || r.Slice != 9 || r.Since(c.Now()) != 0 {
			t.Errorf("it comes in at %+v, now %d", r, c.Now())
		}
	}
}

func TestP21_2SpawnErrors(t *testing.T) {
	p := pairOf(t, small(0), spawns(0, 1, 5))
	full := pairOf(t, small(0), spawns(0, 1, 5), spawns(0, 1, 5), spawns(1, 1, 5), spawns(1, 1, 5), spawns(1, 1, 5))
	for _, c := range []struct {
		x             turn
		wanted, where api.Errno
	}{
		{spawns(0, 1, 1), api.OK, api.ErrFull},
		{spawns(1, mostW, 20), api.OK, api.ErrFull},
		{spawns(2, 1, 1), api.ErrCore, api.ErrCore},
		{spawns(-1, 1, 1), api.ErrCore, api.ErrCore},
		{spawns(math.MaxInt, 1, 1), api.ErrCore, api.ErrCore},
		{spawns(math.MinInt, 1, 1), api.ErrCore, api.ErrCore},
		{spawns(2, 0, 0), api.ErrCore, api.ErrCore},
		{spawns(0, 0, 1), api.ErrRange, api.ErrRange},
		{spawns(0, mostW+1, 1), api.ErrRange, api.ErrRange},
		{spawns(0, 1<<32+1, 1), api.ErrRange, api.ErrRange},
		{spawns(0, math.MaxUint64, 1), api.ErrRange, api.ErrRange},
		{spawns(0, 1, 0), api.ErrRange, api.ErrRange},
		{spawns(0, 1, 21), api.ErrRange, api.ErrRange},
		{spawns(0, 1, math.MaxUint64), api.ErrRange, api.ErrRange},
		{spawns(1, 0, 0), api.ErrRange, api.ErrRange},
	} {
		p.clone().do(t, c.x, c.wanted)
		full.clone().do(t, c.x, c.where)
	}
	// Who sleeps has an ID, too; who exits hasn't.
	full.all(t, sleeps(3))
	full.do(t, spawns(0, 1, 1), api.ErrFull)
	full.all(t, exits(3))
	if a := full.do(t, spawns(0, 1, 1), api.OK); a.id != 3 {
		t.Errorf("%d came", a.id)
	}
}

// owing is a system on whose second core 2 runs, and some more sleep, from 3 on, each of the weight 1, and owing nearly as much as a whole tick (as 3's slice).
func owing(t *testing.T, origin uint64, n int) *pair {
	t.Helper()
	p := pairOf(t, great(origin), spawns(0, mostW, mostSlice), spawns(1, 1, mostSlice))
	for range n {
		id := p.do(t, spawns(0, 1, mostSlice), api.OK).id
		// The first one is due first, but had more than its share by a nanosecond.
		p.all(t, ticks(1), ticks(mostTick), sleeps(id), migrates(id, 1))
		x := p.task(id)
		if x.State != table.Sleeping || x.Core != 1 || x.Lag > -1<<60+1<<41 || x.Lag < -1<<60 {
			t.Fatalf("who should owe much is %+v", x)
		}
	}
	return p
}

func TestP21_2SpawnSpread(t *testing.T) {
	for _, origin := range origins() {
		p := owing(t, origin, 11)
		// Each that wakes, and owes so much, brings the virtual time on from where 2 is, by its lag divided by all weights.
		for id := 3; id <= 12; id++ {
			p.all(t, slicesTo(id, 1), wakes(id))
		}
		p.clone().do(t, spawns(1, 1, mostSlice), api.OK)
		p.all(t, weighs(13, mostW), slicesTo(13, 1), wakes(13))
		a := p.do(t, spawns(1, 1, mostSlice), api.ErrSpread)
		if a.id != 0 || len(a.events) != 0 {
			t.Errorf("%+v", a)
		}
		// The ID stays free.
		if a := p.do(t, spawns(1, 1, mostSlice/4), api.OK); a.id != 14 {
			t.Errorf("%+v", a)
		}
		p.do(t, spawns(1, 0, mostSlice), api.ErrRange)
		p.do(t, spawns(3, 1, mostSlice), api.ErrCore)
		p.all(t, spawns(0, 1, mostSlice))
	}
}

func TestP21_2FullIsToldAheadOfTheSpread(t *testing.T) {
	p := owing(t, 0, 11)
	for id := 3; id <= 12; id++ {
		p.all(t, slicesTo(id, 1), wakes(id))
	}
	p.all(t, weighs(13, mostW), slicesTo(13, 1), wakes(13))
	for range mostTasks - 13 {
		p.all(t, spawns(0, 1, 1))
	}
	p.do(t, spawns(1, 1, mostSlice), api.ErrFull)
	p.all(t, exits(32))
	p.do(t, spawns(1, 1, mostSlice), api.ErrSpread)
}

func TestP21_2Exit(t *testing.T) {
	for _, origin := range origins() {
		// 1 lingers, 2 and 3 run, 4 sleeps.
		p := pairOf(t, small(origin), spawns(0, 1, 4), spawns(0, 1, 9), spawns(1, 1, 3), spawns(1, 1, 3), ticks(2), sleeps(1), sleeps(4))
		if p.task(1).State != table.Lingering || p.task(4).State != table.Sleeping {
			t.Fatalf("%+v", p.s.Tasks())
		}
		carried := func(k int) wide.Int {
			c, _ := p.s.Core(k)
			return c.Carried()
		}
		p.clone().all(t, exits(1), spawns(0, 1, 1), exits(1), exits(2))
		// One that sleeps doesn't compete: nothing is done to its core.
		was := carried(1)
		if a := p.do(t, exits(4), api.OK); len(a.events) != 0 || carried(1) != was {
			t.Errorf("one that sleeps exits: %+v", a)
		}
		// What it leaves behind is settled: with nobody else there 1 is owed nothing.
		a := p.do(t, exits(2), api.OK)
		if !slices.Equal(a.events, []sched.Event{{Core: 0, ID: 1, Gone: true}}) || p.task(1).State != table.Sleeping {
			t.Errorf("%+v, and 1 is %+v", a, p.task(1))
		}
		p.all(t, exits(3), exits(1))
		if len(p.s.Tasks()) != 0 || p.s.Runs()[0] != 0 || p.s.Runs()[1] != 0 {
			t.Errorf("%+v, and %v run", p.s.Tasks(), p.s.Runs())
		}
		for _, id := range []int{1, 2, 3, 4, 0, -1, 5, 6, math.MinInt, math.MaxInt} {
			p.do(t, exits(id), api.ErrTask)
		}
	}
}

func TestP21_2Sleep(t *testing.T) {
	for _, origin := range origins() {
		p := pairOf(t, small(origin), spawns(0, 1, 5), spawns(0, 1, 5), ticks(4))
		// Who owes some lingers, and nothing is kept of its lag.
		if a := p.do(t, sleeps(1), api.OK); len(a.events) != 0 || p.task(1) != (table.Task{ID: 1, State: table.Lingering, W: 1, Slice: 5}) {
			t.Errorf("%+v, it is %+v", a, p.task(1))
		}
		p.do(t, sleeps(1), api.ErrState)
		// Who is owed some goes, with what is kept; with it the last one who runs is gone, so who lingers goes, too.
		a := p.do(t, sleeps(2), api.OK)
		if !slices.Equal(a.events, []sched.Event{{Core: 0, ID: 1, Gone: true}}) {
			t.Errorf("%+v", a)
		}
		if p.task(2) != (table.Task{ID: 2, State: table.Sleeping, W: 1, Slice: 5, Lag: 2 * grain}) || p.task(1) != (table.Task{ID: 1, State: table.Sleeping, W: 1, Slice: 5}) {
			t.Errorf("%+v", p.s.Tasks())
		}
		p.do(t, sleeps(1), api.ErrState)
		p.do(t, sleeps(2), api.ErrState)
		for _, id := range []int{0, -1, 3, 5, 6, math.MinInt, math.MaxInt} {
			p.do(t, sleeps(id), api.ErrTask)
		}
	}
}

// owed is a system of the greatest tick 1, on which 1, of the slice 200, is owed 10 times 100 / 110 nanoseconds, since ten others were served one each, and are owed less.
func owed(t *testing.T, origin uint64) *pair {
	t.Helper()
	c := limits.Config{Cores: 2, Tasks: mostTasks, Tick: 1, Slice: 200, Origin: origin}
	p := pairOf(t, c, spawns(0, 100, 200))
	for range 10 {
		p.all(t, spawns(0, 1, 1))
	}
	for range 10 {
		p.all(t, ticks(1))
	}
	if lag, _ := p.s.Lag(1); lag != wide.Of(1000*grain/110) {
		t.Fatalf("of %+v 1 is owed %v", p.s.Tasks(), lag)
	}
	return p
}

func TestP21_2WhatIsKeptIsWithinTheWindow(t *testing.T) {
	for _, origin := range origins() {
		p := owed(t, origin)
		for _, w := range []struct {
			slice uint64
			lag   int64
		}{{200, 1000 * grain / 110}, {5, 1000 * grain / 110}, {4, 9 * grain}, {2, 5 * grain}, {1, 3 * grain}} {
			q := p.clone()
			q.all(t, slicesTo(1, w.slice), sleeps(1))
			if x := q.task(1); x.State != table.Sleeping || x.Lag != w.lag {
				t.Errorf("of the slice %d it is %+v", w.slice, x)
			}
			// What it has later turns nothing of what is kept.
			q.all(t, slicesTo(1, 1), weighs(1, 9), migrates(1, 1), slicesTo(1, 200))
			if lag, _ := q.s.Lag(1); q.task(1).Lag != w.lag || lag != wide.Of(w.lag) {
				t.Errorf("it is %+v, its lag %v", q.task(1), lag)
			}
			// With that it comes in.
			q.all(t, migrates(1, 0), wakes(1))
			if lag, _ := q.s.Lag(1); lag != wide.Of(w.lag) {
				t.Errorf("it is awake, its lag %v", lag)
			}
		}
	}
}

func TestP21_2WhoGoesAtLastKeepsNoMoreThanItsWindow(t *testing.T) {
	for _, origin := range origins() {
		// 12 lingers, owing less than a nanosecond; with 1 gone it is owed more than 8.
		p := owed(t, origin)
		p.all(t, spawns(0, 90, 1), ticks(1), sleeps(12))
		if lag, _ := p.s.Lag(12); p.task(12).State != table.Lingering || lag.Cmp(wide.Of(-grain)) < 0 {
			t.Fatalf("it is %+v, its lag %v", p.task(12), lag)
		}
		for _, x := range []turn{exits(1), sleeps(1), migrates(1, 1)} {
			for slice, most := range map[uint64]int64{1: 3, 2: 5, 3: 7} {
				q := p.clone()
				q.all(t, slicesTo(12, slice))
				a := q.do(t, x, api.OK)
				if !slices.Equal(a.events, []sched.Event{{Core: 0, ID: 12, Gone: true}}) || q.task(12) != (table.Task{ID: 12, State: table.Sleeping, W: 90, Slice: slice, Lag: most * grain}) {
					t.Errorf("%+v, it is %+v", a, q.task(12))
				}
			}
			q := p.clone()
			q.all(t, slicesTo(12, 200), x)
			if lag := q.task(12).Lag; lag < 8*grain || lag > 9*grain {
				t.Errorf("it is %+v", q.task(12))
			}
		}
	}
}

func TestP21_2WakeOfWhoLingers(t *testing.T) {
	for _, origin := range origins() {
		p := pairOf(t, small(origin), spawns(0, 1, 5), spawns(0, 1, 5), ticks(4), sleeps(1))
		lag, _ := p.s.Lag(1)
		a := p.do(t, wakes(1), api.OK)
		c, _ := p.s.Core(0)
		r, _ := c.Req(1)
		if got, _ := p.s.Lag(1); len(a.events) != 0 || got != lag || r.Left != 1 || p.task(1) != (table.Task{ID: 1, State: table.Runnable, W: 1, Slice: 5}) {
			t.Errorf("%+v, it is %+v, its lag %v, wanted %v", a, p.task(1), got, lag)
		}
		p.do(t, wakes(1), api.ErrState)
		p.do(t, wakes(2), api.ErrState)
		for _, id := range []int{0, -1, 3, 5, 6, math.MinInt, math.MaxInt} {
			p.do(t, wakes(id), api.ErrTask)
		}
	}
}

func TestP21_2WakeOfWhoSleeps(t *testing.T) {
	for _, origin := range origins() {
		p := pairOf(t, small(origin), spawns(0, 1, 5), spawns(0, 1, 5), ticks(4), sleeps(2), ticks(8))
		if x := p.task(2); x.State != table.Sleeping || x.Lag != 2*grain {
			t.Fatalf("it is %+v", x)
		}
		// With another weight, and another slice, than the ones that it slept with.
		p.all(t, weighs(2, 3), slicesTo(2, 7))
		if a := p.do(t, wakes(2), api.OK); len(a.events) != 0 {
			t.Errorf("%+v", a)
		}
		c, _ := p.s.Core(0)
		r, _ := c.Req(2)
		lag, _ := p.s.Lag(2)
		if lag != wide.Of(2*grain) || r.W != 3 || r.Slice != 7 || r.Left != 7 {
			t.Errorf("its request is %+v, its lag %v", r, lag)
		}
		// What was kept of its lag is told by the table still, whatever it is by now.
		p.all(t, ticks(5))
		if p.task(2) != (table.Task{ID: 2, State: table.Runnable, W: 3, Slice: 7, Lag: 2 * grain}) {
			t.Errorf("it is %+v", p.task(2))
		}
		p.do(t, wakes(2), api.ErrState)
		// Where it lingers, too.
		for lag, _ := p.s.Lag(2); lag.Sign() >= 0; lag, _ = p.s.Lag(2) {
			p.all(t, ticks(1))
		}
		p.all(t, sleeps(2))
		if x := p.task(2); x.State != table.Lingering || x.Lag != 2*grain {
			t.Errorf("it is %+v", x)
		}
	}
}

func TestP21_2WakeTellsWhoGoes(t *testing.T) {
	for _, origin := range origins() {
		// 3 sleeps owing, 1 lingers.
		p := pairOf(t, small(origin), spawns(0, 1, 5), spawns(0, 1, 5), spawns(1, 1, 5), spawns(1, 1, 20), ticks(4), sleeps(3), migrates(3, 0), sleeps(1))
		if p.task(1).State != table.Lingering || p.task(3).Lag != -2*grain {
			t.Fatalf("%+v", p.s.Tasks())
		}
		p.all(t, weighs(3, mostW), ticks(3))
		a := p.do(t, wakes(3), api.OK)
		if !slices.Equal(a.events, []sched.Event{{Core: 0, ID: 1, Gone: true}}) || p.task(1).State != table.Sleeping || p.task(1).Lag <= 0 {
			t.Errorf("%+v, and 1 is %+v", a, p.task(1))
		}
	}
}

func TestP21_2WakeSpread(t *testing.T) {
	for _, origin := range origins() {
		p := owing(t, origin, 4)
		p.all(t, wakes(3), wakes(4), wakes(5))
		a := p.do(t, wakes(6), api.ErrSpread)
		if len(a.events) != 0 || p.task(6).State != table.Sleeping {
			t.Errorf("%+v, it is %+v", a, p.task(6))
		}
		// Elsewhere it may wake, and there with a lesser slice.
		p.clone().all(t, migrates(6, 0), wakes(6))
		p.clone().all(t, migrates(6, 2), wakes(6))
		p.all(t, slicesTo(6, 1), wakes(6))
	}
}

func TestP21_3Weight(t *testing.T) {
	for _, origin := range origins() {
		// At 6 and 0 nanoseconds, now at 3.
		p := pairOf(t, small(origin), spawns(0, 1, 6), spawns(0, 1, 9), ticks(6))
		q := p.clone()
		a := q.do(t, weighs(1, 3), api.OK)
		c, _ := q.s.Core(0)
		r, _ := c.Req(1)
		if lag, _ := q.s.Lag(1); len(a.events) != 0 || lag != wide.Of(-3*grain) || r.W != 3 || q.task(1) != (table.Task{ID: 1, State: table.Runnable, W: 3, Slice: 6}) {
			t.Errorf("%+v, it is %+v, its request %+v, its lag %v", a, q.task(1), r, lag)
		}
		// Another one may run then.
		q = pairOf(t, small(origin), spawns(0, 1, 5), spawns(0, 1, 6), weighs(2, 2))
		if q.s.Runs()[0] != 2 {
			t.Errorf("there run %v", q.s.Runs())
		}
		// Also of the same weight its lag is carried.
		was, _ := p.s.Core(0)
		q = p.clone()
		q.all(t, weighs(1, 1))
		if c, _ := q.s.Core(0); c.Carried() == was.Carried() {
			t.Errorf("of the same weight nothing was carried")
		}
		// One that lingers is weighed as it lingers; one that sleeps, and its core isn't told.
		p.all(t, sleeps(1), weighs(1, mostW))
		if p.task(1).State != table.Lingering {
			t.Errorf("it is %+v", p.task(1))
		}
		p.all(t, spawns(0, 1, 1), sleeps(3))
		was, _ = p.s.Core(0)
		if a := p.do(t, weighs(3, 5), api.OK); len(a.events) != 0 || p.task(3) != (table.Task{ID: 3, State: table.Sleeping, W: 5, Slice: 1}) {
			t.Errorf("%+v, it is %+v", a, p.task(3))
		}
		if c, _ := p.s.Core(0); !alike(c, was) {
			t.Errorf("the core is %+v, wanted %+v", c, was)
		}
		for id := 1; id <= 3; id++ {
			for _, w := range []uint64{0, mostW + 1, 1<<32 + 1, math.MaxUint64} {
				p.do(t, weighs(id, w), api.ErrRange)
				p.do(t, weighs(id+3, w), api.ErrTask)
			}
		}
		for _, id := range []int{0, -1, 4, 5, 6, math.MinInt, math.MaxInt} {
			p.do(t, weighs(id, 1), api.ErrTask)
		}
	}
}

func TestP21_3WhoIsWeighedMayGo(t *testing.T) {
	for _, origin := range origins() {
		p := pairOf(t, great(origin), spawns(0, 1, 1), spawns(0, mostW, 1<<20), spawns(0, mostW, 1<<20-1))
		for p.s.Runs()[0] != 1 {
			p.all(t, ticks(1))
		}
		p.all(t, ticks(1), sleeps(1))
		for lag, _ := p.s.Lag(1); lag.Cmp(wide.Of(-1)) < 0; lag, _ = p.s.Lag(1) {
			far, _ := lag.Small()
			p.all(t, ticks(uint64(max(1, -far-9))))
		}
		// By now it owes just less than one grain: with the next nanosecond just less than half of one.
		p.all(t, ticks(1))
		if lag, _ := p.s.Lag(1); p.task(1).State != table.Lingering || lag != wide.Of(-1) {
			t.Fatalf("it is %+v, its lag %v", p.task(1), lag)
		}
		a := p.do(t, weighs(1, 2), api.OK)
		if !slices.Equal(a.events, []sched.Event{{Core: 0, ID: 1, Gone: true}}) || p.task(1) != (table.Task{ID: 1, State: table.Sleeping, W: 2, Slice: 1}) {
			t.Errorf("%+v, it is %+v", a, p.task(1))
		}
	}
}

func TestP21_3WeightSpread(t *testing.T) {
	for _, origin := range origins() {
		p := owing(t, origin, 4)
		p.all(t, wakes(3), wakes(4), wakes(5), weighs(6, 2), wakes(6))
		for range 2 {
			a := p.do(t, weighs(6, 1), api.ErrSpread)
			if len(a.events) != 0 || p.task(6).W != 2 {
				t.Errorf("%+v, it is %+v", a, p.task(6))
			}
			p.all(t, sleeps(6))
			p.do(t, weighs(6, 0), api.ErrRange)
			p.do(t, weighs(7, 0), api.ErrTask)
			p.all(t, weighs(6, 3), weighs(6, 2), wakes(6))
		}
	}
}

func TestP21_3Slice(t *testing.T) {
	for _, origin := range origins() {
		// 1 lingers, 2 runs, 3 sleeps.
		p := pairOf(t, small(origin), spawns(0, 1, 5), spawns(0, 1, 5), spawns(0, 1, 5), ticks(4), sleeps(1), sleeps(3))
		if p.task(1).State != table.Lingering || p.task(3).State != table.Sleeping {
			t.Fatalf("%+v", p.s.Tasks())
		}
		for _, ns := range []uint64{1, 20, 7} {
			for id := 1; id <= 3; id++ {
				wanted := p.task(id)
				wanted.Slice = ns
				if a := p.do(t, slicesTo(id, ns), api.OK); len(a.events) != 0 || p.task(id) != wanted {
					t.Errorf("%+v, it is %+v, wanted %+v", a, p.task(id), wanted)
				}
			}
		}
		c, _ := p.s.Core(0)
		for id, left := range map[int]uint64{1: 1, 2: 5} {
			if r, _ := c.Req(id); r.Left != left || r.Slice != 7 {
				t.Errorf("the request is %+v", r)
			}
		}
		for id := 1; id <= 3; id++ {
			for _, ns := range []uint64{0, 21, 1<<40 + 1, math.MaxUint64} {
				p.do(t, slicesTo(id, ns), api.ErrRange)
				p.do(t, slicesTo(id+3, ns), api.ErrTask)
			}
		}
		for _, id := range []int{0, -1, 4, 5, 6, math.MinInt, math.MaxInt} {
			p.do(t, slicesTo(id, 1), api.ErrTask)
		}
	}
}

func TestP21_3MigrateOfWhoIsRunnable(t *testing.T) {
	for _, origin := range origins() {
		// At 4 and 0 nanoseconds; 3 is alone.
		p := pairOf(t, small(origin), spawns(0, 1, 5), spawns(0, 1, 5), spawns(1, 1, 5), ticks(4))
		for id, lag := range map[int]int64{1: -2 * grain, 2: 2 * grain} {
			q := p.clone()
			a := q.do(t, migrates(id, 1), api.OK)
			c, _ := q.s.Core(1)
			r, _ := c.Req(id)
			got, _ := q.s.Lag(id)
			if len(a.events) != 0 || got != wide.Of(lag) || r.Left != 5 || q.task(id) != (table.Task{ID: id, State: table.Runnable, Core: 1, W: 1, Slice: 5, Lag: lag}) {
				t.Errorf("%+v, it is %+v, its request %+v, its lag %v", a, q.task(id), r, got)
			}
			if q.s.Runs()[0] != 3-id {
				t.Errorf("there run %v", q.s.Runs())
			}
			// Of its own core nothing is done; back again it keeps what it is owed by then.
			q.all(t, migrates(id, 1), ticks(2))
			was, _ := q.s.Lag(id)
			q.all(t, migrates(id, 0))
			if back := q.task(id); wide.Of(back.Lag) != was || back.Core != 0 || back.State != table.Runnable {
				t.Errorf("it is %+v, its lag was %v", back, was)
			}
		}
		// Where nobody is its lag is let go, but not what was kept of it.
		p.all(t, exits(3), migrates(2, 1))
		if lag, _ := p.s.Lag(2); lag != wide.Of(0) || p.task(2).Lag != 2*grain || !slices.Equal(p.s.Runs(), []int{1, 2}) {
			t.Errorf("it is %+v, its lag %v", p.task(2), lag)
		}
	}
}

func TestP21_3MigrateKeepsNoMoreThanTheWindow(t *testing.T) {
	for _, origin := range origins() {
		p := owed(t, origin)
		p.all(t, spawns(1, 5, 9))
		for _, w := range []struct {
			slice uint64
			lag   int64
		}{{200, 1000 * grain / 110}, {4, 9 * grain}, {1, 3 * grain}} {
			q := p.clone()
			q.all(t, slicesTo(1, w.slice), migrates(1, 1))
			lag, _ := q.s.Lag(1)
			if lag != wide.Of(w.lag) || q.task(1) != (table.Task{ID: 1, State: table.Runnable, Core: 1, W: 100, Slice: w.slice, Lag: w.lag}) {
				t.Errorf("it is %+v, its lag %v", q.task(1), lag)
			}
		}
	}
}

func TestP21_3MigrateOfWhoDoesNotRun(t *testing.T) {
	for _, origin := range origins() {
		p := pairOf(t, small(origin), spawns(0, 1, 5), spawns(0, 1, 5), spawns(0, 1, 5), spawns(1, 1, 9), ticks(3), sleeps(1), sleeps(3))
		if p.task(1).State != table.Lingering || p.task(3).State != table.Sleeping {
			t.Fatalf("%+v", p.s.Tasks())
		}
		// Of the core where it is nothing, also of one that lingers.
		for id := 1; id <= 3; id++ {
			was, _ := p.s.Core(0)
			x := p.task(id)
			a := p.do(t, migrates(id, 0), api.OK)
			if c, _ := p.s.Core(0); len(a.events) != 0 || p.task(id) != x || !alike(c, was) {
				t.Errorf("%+v, it is %+v", a, p.task(id))
			}
		}
		was, _ := p.s.Core(1)
		lag, _ := p.s.Lag(1)
		kept, _ := lag.Small()
		if a := p.do(t, migrates(1, 1), api.OK); len(a.events) != 0 || p.task(1) != (table.Task{ID: 1, State: table.Sleeping, Core: 1, W: 1, Slice: 5, Lag: kept}) {
			t.Errorf("%+v, it is %+v", a, p.task(1))
		}
		x := p.task(3)
		x.Core = 1
		if a := p.do(t, migrates(3, 1), api.OK); len(a.events) != 0 || p.task(3) != x {
			t.Errorf("%+v, it is %+v", a, p.task(3))
		}
		// They don't compete there.
		if c, _ := p.s.Core(1); !alike(c, was) {
			t.Errorf("the core is %+v, wanted %+v", c, was)
		}
		p.all(t, wakes(1), wakes(3))
		if c, _ := p.s.Core(1); c.Len() != 3 {
			t.Errorf("on the second core there are %+v", c.Reqs())
		}
	}
}

func TestP21_3MigrateTellsWhoGoes(t *testing.T) {
	for _, origin := range origins() {
		// Where it leaves, owed something, one that lingered is owed more.
		p := pairOf(t, small(origin), spawns(1, 1, 5), spawns(1, 1, 5), spawns(0, 1, 5), ticks(4), sleeps(1))
		a := p.do(t, migrates(2, 0), api.OK)
		if !slices.Equal(a.events, []sched.Event{{Core: 1, ID: 1, Gone: true}}) || p.task(1) != (table.Task{ID: 1, State: table.Sleeping, Core: 1, W: 1, Slice: 5}) {
			t.Errorf("%+v, and 1 is %+v", a, p.task(1))
		}
		// And where it joins, owing something.
		p = pairOf(t, small(origin), spawns(1, 1, 9), spawns(1, 1, 20), spawns(0, 1, 9), spawns(0, 2, 20), ticks(9), ticks(8), sleeps(1))
		if p.task(1).State != table.Lingering {
			t.Fatalf("%+v", p.s.Tasks())
		}
		a = p.do(t, migrates(3, 1), api.OK)
		if !slices.Equal(a.events, []sched.Event{{Core: 1, ID: 1, Gone: true}}) || p.task(1).State != table.Sleeping || p.task(1).Lag <= 0 || p.task(3).Lag >= 0 {
			t.Errorf("%+v, they are %+v", a, p.s.Tasks())
		}
		// Also one that lingers leaves a core that is settled then.
		p = pairOf(t, small(origin), spawns(0, 1, 5), spawns(0, 1, 5), ticks(4), sleeps(1))
		if a := p.do(t, migrates(1, 1), api.OK); len(a.events) != 0 || !slices.Equal(p.s.Runs(), []int{2, 0}) {
			t.Errorf("%+v, and there run %v", a, p.s.Runs())
		}
	}
}

func TestP21_3MigrateErrors(t *testing.T) {
	p := pairOf(t, small(0), spawns(0, 1, 5), spawns(0, 1, 5), spawns(0, 1, 5), ticks(4), sleeps(1), sleeps(2))
	for _, k := range []int{-1, 2, mostCores, math.MinInt, math.MaxInt} {
		for id := 1; id <= 3; id++ {
			p.do(t, migrates(id, k), api.ErrCore)
		}
		for _, id := range []int{0, -1, 4, 5, 6, math.MinInt, math.MaxInt} {
			p.do(t, migrates(id, k), api.ErrTask)
			p.do(t, migrates(id, 1), api.ErrTask)
		}
	}
}

func TestP21_3MigrateSpread(t *testing.T) {
	for _, origin := range origins() {
		p := owing(t, origin, 3)
		// One more that owes as much, on the first core yet.
		p.all(t, spawns(0, 1, mostSlice), ticks(1), ticks(mostTick), wakes(3), wakes(4), wakes(5))
		was := p.s.Tasks()
		a := p.do(t, migrates(6, 1), api.ErrSpread)
		if len(a.events) != 0 || !slices.Equal(p.s.Tasks(), was) {
			t.Errorf("%+v, they are %+v, wanted %+v", a, p.s.Tasks(), was)
		}
		p.do(t, migrates(6, 3), api.ErrCore)
		p.clone().all(t, migrates(6, 2))
		// As it lingers it only sleeps there.
		p.all(t, sleeps(6), migrates(6, 1))
		p.do(t, wakes(6), api.ErrSpread)
	}
}

func TestP21_3WhatMigratesTooFarHasLeftNothing(t *testing.T) {
	for _, origin := range origins() {
		// 2 is owed much, and 3, that lingers, would go if it left.
		p := owing(t, origin, 3)
		p.all(t, spawns(2, 1, mostSlice), wakes(3), wakes(4), wakes(5), sleeps(3))
		was, _ := p.s.Core(1)
		p.do(t, migrates(2, 2), api.ErrSpread)
		if c, _ := p.s.Core(1); !alike(c, was) || p.task(3).State != table.Lingering || p.task(2).Core != 1 || p.task(2).Lag != 0 {
			t.Errorf("they are %+v", p.s.Tasks())
		}
		// With a lesser slice less of it is kept.
		p.all(t, slicesTo(2, 1))
		a := p.do(t, migrates(2, 2), api.OK)
		if !slices.Equal(a.events, []sched.Event{{Core: 1, ID: 3, Gone: true}}) || p.task(2).Lag != (mostTick+2)*grain {
			t.Errorf("%+v, they are %+v", a, p.s.Tasks())
		}
	}
}

func TestP21_3Tick(t *testing.T) {
	for _, origin := range origins() {
		p := pairOf(t, small(origin), spawns(1, 1, 3), spawns(1, 1, 3))
		a := p.do(t, ticks(9), api.OK)
		wanted := []sched.Event{{Core: 1, ID: 1, Ns: 3, Done: true}, {Core: 1, ID: 2, Ns: 3, Done: true}, {Core: 1, ID: 1, Ns: 3, Done: true}}
		if !slices.Equal(a.events, wanted) || !slices.Equal(p.s.Runs(), []int{0, 2}) {
			t.Errorf("%+v, and there run %v", a, p.s.Runs())
		}
		for _, ns := range []uint64{0, 10, 1<<40 + 1, math.MaxUint64} {
			p.do(t, ticks(ns), api.ErrRange)
		}
		p.all(t, ticks(1), ticks(9))
		// Of nobody nothing is told.
		p.all(t, exits(1), exits(2))
		if a := p.do(t, ticks(9), api.OK); len(a.events) != 0 {
			t.Errorf("%+v", a)
		}
		p.do(t, ticks(0), api.ErrRange)
	}
}

func TestP21_4TheExample(t *testing.T) {
	for _, origin := range origins() {
		p := pairOf(t, limits.Config{Cores: 1, Tasks: 2, Tick: 9, Slice: 9, Origin: origin}, spawns(0, 1, 5), spawns(0, 1, 5))
		a := p.do(t, ticks(5), api.OK)
		if !slices.Equal(a.events, []sched.Event{{ID: 1, Ns: 5, Done: true}}) || !slices.Equal(p.s.Runs(), []int{2}) {
			t.Errorf("%+v, and there run %v", a, p.s.Runs())
		}
	}
}
