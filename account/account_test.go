package account_test

import (
	"math"
	"testing"

	"turnstone/account"
	"turnstone/api"
	"turnstone/limits"
)

// small is a configuration of small numbers.
func small(origin uint64) limits.Config {
	return limits.Config{Cores: 2, Tasks: 5, Tick: 9, Slice: 20, Origin: origin}
}

func (p *pair) entry(t *testing.T, id int, wanted account.Entry) {
	t.Helper()
	if got, e := p.b.Entry(id); got != wanted || e != api.OK {
		t.Errorf("the entry %d is %+v, %d, wanted %+v", id, got, e, wanted)
	}
}

func (p *pair) count(t *testing.T, k int, wanted account.Count) {
	t.Helper()
	if got, e := p.b.Count(k); got != wanted || e != api.OK {
		t.Errorf("the count %d is %+v, %d, wanted %+v", k, got, e, wanted)
	}
}

func TestP22_1New(t *testing.T) {
	for _, origin := range origins() {
		for _, c := range []limits.Config{small(origin), {Cores: 1, Tasks: 1, Tick: 1, Slice: 1}, {Cores: mostCores, Tasks: mostTasks, Tick: mostTick, Slice: mostSlice, Origin: origin}} {
			p := newPair(t, c)
			p.check(t)
			for id := 1; id <= c.Tasks; id++ {
				p.entry(t, id, account.Entry{})
			}
			for k := range c.Cores {
				p.count(t, k, account.Count{})
			}
			// No two share anything.
			other, _ := account.New(c)
			other.Spawn(0, 1, 1)
			other.Tick(1)
			p.check(t)
		}
	}
	for _, c := range []limits.Config{
		{},
		{Cores: 0, Tasks: 1, Tick: 1, Slice: 1},
		{Cores: -1, Tasks: 1, Tick: 1, Slice: 1},
		{Cores: mostCores + 1, Tasks: 1, Tick: 1, Slice: 1},
		{Cores: 1, Tasks: -1, Tick: 1, Slice: 1},
		{Cores: 1, Tasks: mostTasks + 1, Tick: 1, Slice: 1},
		{Cores: 1, Tasks: 1, Tick: 0, Slice: 1},
		{Cores: 1, Tasks: 1, Tick: 1, Slice: mostSlice + 1},
		{Cores: math.MaxInt, Tasks: math.MinInt, Tick: math.MaxUint64, Slice: math.MaxUint64},
	} {
		if b, e := account.New(c); b != nil || e != api.ErrRange {
			t.Errorf("of %+v: %v, %d", c, b, e)
		}
	}
}

func TestP22_1Clone(t *testing.T) {
	p := pairOf(t, small(0), spawns(0, 1, 5), spawns(0, 2, 7), spawns(1, 1, 3), ticks(4), sleeps(1))
	for _, l := range [][2]turn{
		{ticks(5), spawns(0, 5, 1)},
		{spawns(1, 2, 3), ticks(3)},
		{exits(2), ticks(9)},
		{ticks(9), exits(3)},
	} {
		c := p.clone()
		c.check(t)
		if c.b == p.b || c.b.System == p.b.System {
			t.Fatal("a clone is the book itself, or has its system")
		}
		// Each goes on by itself.
		p.take(t, l[0])
		c.check(t)
		c.take(t, l[1])
		p.check(t)
		c.take(t, l[0])
		p.check(t)
		p.take(t, l[1])
		c.check(t)
	}
}

func TestP22_1Nil(t *testing.T) {
	var b *account.Book
	if b.Clone() != nil {
		t.Error("of nil there is a clone")
	}
	if entry, count := b.Total(); entry != (account.Entry{}) || count != (account.Count{}) {
		t.Errorf("of nil all together are %+v, %+v", entry, count)
	}
	for _, n := range []int{0, 1, -1, math.MaxInt, math.MinInt} {
		if entry, e := b.Entry(n); entry != (account.Entry{}) || e != api.ErrNil {
			t.Errorf("of nil the entry %d is %+v, %d", n, entry, e)
		}
		if count, e := b.Count(n); count != (account.Count{}) || e != api.ErrNil {
			t.Errorf("of nil the count %d is %+v, %d", n, count, e)
		}
	}
	// Whatever else is wrong.
	for kind := range kinds {
		for _, x := range []turn{{kind: kind}, {kind: kind, id: 1, w: 1, ns: 1}, {kind: kind, id: -1, core: -1, w: mostW + 1, ns: mostTick + 1}} {
			if id, e := x.take(b); id != 0 || e != api.ErrNil {
				t.Errorf("of nil, %+v: %d, %d", x, id, e)
			}
		}
	}
}

func TestP22_1Entry(t *testing.T) {
	p := newPair(t, small(0))
	// Of all IDs that there may be, whoever is there.
	for id := 1; id <= 5; id++ {
		p.entry(t, id, account.Entry{})
	}
	p.all(t, spawns(0, 1, 5), ticks(7))
	p.entry(t, 1, account.Entry{Served: 7, Requests: 1, Parts: 2})
	p.entry(t, 2, account.Entry{})
	for _, id := range []int{0, -1, 6, mostTasks, math.MinInt, math.MaxInt} {
		if got, e := p.b.Entry(id); got != (account.Entry{}) || e != api.ErrTask {
			t.Errorf("the entry %d is %+v, %d", id, got, e)
		}
	}
}

func TestP22_1Count(t *testing.T) {
	p := pairOf(t, small(0), spawns(1, 1, 5), ticks(7), ticks(2))
	p.count(t, 0, account.Count{Idle: 9})
	p.count(t, 1, account.Count{Busy: 9, Switches: 1})
	for _, k := range []int{-1, 2, mostCores, math.MinInt, math.MaxInt} {
		if got, e := p.b.Count(k); got != (account.Count{}) || e != api.ErrCore {
			t.Errorf("the count %d is %+v, %d", k, got, e)
		}
	}
}

func TestP22_1Total(t *testing.T) {
	p := pairOf(t, small(0), spawns(0, 1, 4), spawns(0, 1, 4), spawns(1, 1, 3), ticks(8), ticks(1), sleeps(1), ticks(9))
	p.entry(t, 1, account.Entry{Served: 5, Requests: 1, Parts: 2, Gone: 1})
	p.entry(t, 2, account.Entry{Served: 13, Requests: 3, Parts: 4})
	p.entry(t, 3, account.Entry{Served: 18, Requests: 6, Parts: 7})
	entry, count := p.b.Total()
	if entry != (account.Entry{Served: 36, Requests: 10, Parts: 13, Gone: 1}) || count != (account.Count{Busy: 36, Switches: 3}) {
		t.Errorf("all together are %+v, %+v", entry, count)
	}
	// Of who exited it counts till another one has the ID.
	p.all(t, exits(2), exits(3), ticks(3))
	if got, count := p.b.Total(); got != entry || count != (account.Count{Busy: 36, Idle: 6, Switches: 5}) {
		t.Errorf("all together are %+v, %+v", got, count)
	}
	p.all(t, spawns(1, 1, 3))
	if got, _ := p.b.Total(); got != (account.Entry{Served: 23, Requests: 7, Parts: 9, Gone: 1}) {
		t.Errorf("all together are %+v", got)
	}
}

func TestP22_2Spawn(t *testing.T) {
	for _, origin := range origins() {
		p := newPair(t, small(origin))
		for id := 1; id <= 3; id++ {
			if got := p.do(t, spawns(0, 1, 5), api.OK); got != id {
				t.Errorf("%d came, wanted %d", got, id)
			}
		}
		p.all(t, ticks(9), exits(1))
		// What it was served is told still, till another one has its ID.
		p.entry(t, 1, account.Entry{Served: 5, Requests: 1, Parts: 1})
		for _, c := range []struct {
			x turn
			e api.Errno
		}{
			{spawns(2, 1, 5), api.ErrCore}, {spawns(-1, 0, 0), api.ErrCore}, {spawns(0, 0, 5), api.ErrRange},
			{spawns(0, mostW+1, 5), api.ErrRange}, {spawns(0, 1, 21), api.ErrRange}, {spawns(0, 1, 0), api.ErrRange},
		} {
			p.do(t, c.x, c.e)
		}
		p.entry(t, 1, account.Entry{Served: 5, Requests: 1, Parts: 1})
		if got := p.do(t, spawns(1, 1, 5), api.OK); got != 1 {
			t.Errorf("%d came", got)
		}
		p.entry(t, 1, account.Entry{})
		p.entry(t, 2, account.Entry{Served: 4, Parts: 1})
		p.all(t, spawns(0, 1, 5), spawns(0, 1, 5))
		p.do(t, spawns(0, 1, 5), api.ErrFull)
		p.all(t, ticks(1), exits(1), exits(2), exits(3), exits(4), exits(5), ticks(4))
		p.count(t, 1, account.Count{Busy: 1, Idle: 13, Switches: 2})
	}
}

func TestP22_2Errors(t *testing.T) {
	p := pairOf(t, small(0), spawns(0, 1, 5), spawns(0, 1, 5), ticks(4), sleeps(1))
	for _, c := range []struct {
		x turn
		e api.Errno
	}{
		{exits(3), api.ErrTask}, {exits(0), api.ErrTask},
		{sleeps(3), api.ErrTask}, {sleeps(1), api.ErrState},
		{wakes(3), api.ErrTask}, {wakes(2), api.ErrState},
		{weighs(3, 0), api.ErrTask}, {weighs(1, 0), api.ErrRange}, {weighs(2, mostW+1), api.ErrRange},
		{slicesTo(3, 0), api.ErrTask}, {slicesTo(1, 0), api.ErrRange}, {slicesTo(2, 21), api.ErrRange},
		{migrates(3, 2), api.ErrTask}, {migrates(1, 2), api.ErrCore}, {migrates(2, -1), api.ErrCore},
		{ticks(0), api.ErrRange}, {ticks(10), api.ErrRange}, {ticks(math.MaxUint64), api.ErrRange},
	} {
		p.do(t, c.x, c.e)
	}
	p.entry(t, 1, account.Entry{Served: 4, Parts: 1})
	p.count(t, 0, account.Count{Busy: 4, Switches: 2})
	p.count(t, 1, account.Count{Idle: 4})
}

func TestP22_2GoneIsEnteredOfEachCall(t *testing.T) {
	// 1 lingers, and goes by each of these.
	lingers := []turn{spawns(0, 1, 5), spawns(0, 1, 9), ticks(4), sleeps(1)}
	for _, x := range []turn{exits(2), sleeps(2), migrates(2, 1), ticks(5)} {
		p := pairOf(t, small(0), lingers...)
		p.entry(t, 1, account.Entry{Served: 4, Parts: 1})
		p.all(t, x)
		p.entry(t, 1, account.Entry{Served: 4, Parts: 1, Gone: 1})
		// Once more, and till its ID is another one's.
		p.all(t, exits(1))
		p.entry(t, 1, account.Entry{Served: 4, Parts: 1, Gone: 1})
		p.all(t, spawns(0, 1, 5))
		p.entry(t, 1, account.Entry{})
	}
	// Who goes at once, as it sleeps, doesn't linger.
	p := pairOf(t, small(0), spawns(0, 1, 5), ticks(3), sleeps(1))
	p.entry(t, 1, account.Entry{Served: 3, Parts: 1})
	// One that wakes, owing something, brings another one that lingers to go.
	p = pairOf(t, small(0), spawns(1, 1, 9), spawns(1, 1, 20), spawns(0, 1, 9), spawns(0, 2, 20), ticks(9), ticks(8), sleeps(1), sleeps(3), migrates(3, 1), wakes(3))
	p.entry(t, 1, account.Entry{Served: 9, Requests: 1, Parts: 1, Gone: 1})
	p.entry(t, 3, account.Entry{Served: 9, Requests: 1, Parts: 1})
}

func TestP22_2Switches(t *testing.T) {
	p := newPair(t, small(0))
	for _, c := range []struct {
		x           turn
		first, then uint64
	}{
		{spawns(0, 1, 4), 1, 0},
		{spawns(0, 1, 4), 1, 0},
		{ticks(3), 2, 0},
		{ticks(3), 3, 0},
		// From the one to the other, and back, within one call is none.
		{ticks(2), 3, 0},
		{ticks(8), 3, 0},
		{ticks(4), 4, 0},
		{sleeps(2), 5, 0},
		{wakes(2), 6, 0},
		{sleeps(1), 6, 0},
		{wakes(1), 6, 0},
		{migrates(1, 1), 6, 1},
		{migrates(2, 1), 7, 1},
		{spawns(1, mostW, 1), 7, 2},
		{weighs(3, 1), 7, 2},
		{weighs(2, mostW), 7, 3},
		{exits(3), 7, 3},
		{slicesTo(2, 9), 7, 3},
		{exits(1), 7, 3},
		{exits(2), 7, 4},
		{ticks(9), 7, 4},
		{spawns(1, 1, 4), 7, 5},
	} {
		p.do(t, c.x, api.OK)
		first, _ := p.b.Count(0)
		then, _ := p.b.Count(1)
		if first.Switches != c.first || then.Switches != c.then {
			t.Errorf("behind %+v there were %d and %d switches, wanted %d and %d", c.x, first.Switches, then.Switches, c.first, c.then)
		}
	}
	// What is refused is none, whoever would run.
	count, _ := p.b.Count(1)
	p.do(t, spawns(1, 0, 1), api.ErrRange)
	p.do(t, wakes(1), api.ErrState)
	p.do(t, ticks(10), api.ErrRange)
	p.count(t, 1, count)
}

func TestP22_2TheExample(t *testing.T) {
	for _, origin := range origins() {
		p := pairOf(t, limits.Config{Cores: 1, Tasks: 1, Tick: 9, Slice: 9, Origin: origin}, spawns(0, 1, 5), ticks(7))
		p.entry(t, 1, account.Entry{Served: 7, Requests: 1, Parts: 2})
		p.count(t, 0, account.Count{Busy: 7, Switches: 1})
	}
}

// turnOf is one without a pattern, of some of which a number may not be.
func turnOf(next func(n int) int, c limits.Config) turn {
	often := []int{spawn, spawn, spawn, exit, sleep, sleep, wake, wake, wake, weight, slice, migrate, migrate, tick, tick, tick, tick, tick}
	x := turn{kind: often[next(len(often))], id: next(c.Tasks + 2), core: next(c.Cores+1) - next(25)/24}
	x.w = uint64(next(8)*next(8) + 1 - next(25)/24)
	x.ns = uint64(next(int(c.Slice)) + 1 + next(25)/24)
	if x.kind == tick {
		x.ns = uint64(next(int(c.Tick)) + 1 + next(25)/24)
	}
	return x
}

func TestP22_2Turns(t *testing.T) {
	var refused int
	told := map[int]int{}
	for seed := range 40 {
		next := chance(seed)
		c := limits.Config{Cores: 1 + next(3), Tasks: []int{3, 8, mostTasks}[next(3)], Tick: uint64(1 + next(200)), Slice: uint64(1 + next(60)), Origin: origins()[seed%4]}
		p := newPair(t, c)
		left := p.clone()
		for i := range 120 {
			x := turnOf(next, c)
			if _, e := p.take(t, x); e != api.OK {
				refused++
			} else {
				told[x.kind]++
			}
			if i%30 == 0 {
				// A clone that is left behind stays what it was, and goes on as well as the book itself.
				left.check(t)
				p, left = p.clone(), p
			}
		}
	}
	for kind := range kinds {
		if told[kind] < 50 {
			t.Errorf("of the kind %d there were %d", kind, told[kind])
		}
	}
	if refused < 200 {
		t.Errorf("there were refused %d", refused)
	}
}

func TestP22_3BusyAndIdleAreAllTicks(t *testing.T) {
	var exited, idle uint64
	for seed := range 20 {
		next := chance(100 + seed)
		c := limits.Config{Cores: 1 + next(3), Tasks: 4, Tick: uint64(1 + next(200)), Slice: uint64(1 + next(60)), Origin: origins()[seed%4]}
		b, _ := account.New(c)
		var ticked, served uint64
		for range 300 {
			x := turnOf(next, c)
			was, _ := b.Entry(x.id)
			ahead, _ := b.Total()
			id, e := x.take(b)
			if e != api.OK {
				continue
			}
			then, _ := b.Total()
			switch x.kind {
			case tick:
				ticked += x.ns
				served += then.Served - ahead.Served
			case spawn:
				// Its ID's entry is told anew: all others stay.
				if then.Served > ahead.Served {
					t.Fatalf("of %d that came %d were served", id, then.Served-ahead.Served)
				}
				exited += ahead.Served - then.Served
			default:
				if now, _ := b.Entry(x.id); now.Served != was.Served || then.Served != ahead.Served {
					t.Fatalf("by %+v there were served %d", x, then.Served-ahead.Served)
				}
			}
			var busy uint64
			for k := range c.Cores {
				count, _ := b.Count(k)
				if count.Busy+count.Idle != ticked {
					t.Fatalf("of %d on %d there were %+v", ticked, k, count)
				}
				busy += count.Busy
				idle += count.Idle
			}
			if busy != served {
				t.Fatalf("there were served %d, and busy %d", served, busy)
			}
		}
	}
	if exited == 0 || idle == 0 {
		t.Errorf("of those who exited %d, and idle %d", exited, idle)
	}
}
