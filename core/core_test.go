package core_test

import (
	"math"
	"slices"
	"testing"

	"turnstone/api"
	"turnstone/core"
	"turnstone/item"
	"turnstone/pos"
	"turnstone/req"
	"turnstone/settle"
	"turnstone/vtime"
	"turnstone/wide"
)

func TestP18_1New(t *testing.T) {
	for _, clock := range origins() {
		p := newPair(clock)
		p.check(t)
		if p.c.Run() != 0 || p.c.Carried() != (wide.Int{}) || p.c.Now() != clock || p.c.Len() != 0 {
			t.Errorf("a new core of the clock %d isn't new", clock)
		}
		for _, x := range []turn{leaves(1), sleeps(1), wakes(1), weighs(1, 3), slicesTo(1, 3)} {
			p.do(t, x, api.ErrNone)
		}
		if a := p.do(t, ticks(5), api.OK); len(a.report.Parts) != 0 || len(a.report.Gone) != 0 {
			t.Errorf("of nobody there was %+v", a)
		}
		// No two share anything.
		core.New(clock).Join(1, 1, 3, 0)
		p.check(t)
	}
}

func TestP18_1Clone(t *testing.T) {
	for _, by := range origins() {
		p := pairOf(t, by, joins(1, 1, 2, 0), joins(2, 3, 4, 77), ticks(3))
		for _, l := range [][2]turn{
			{joins(3, 1, 5, -8), joins(3, 9, 1, 100)},
			{ticks(5), sleeps(1)},
			{sleeps(2), ticks(4)},
			{weighs(1, 8), slicesTo(2, 7)},
			{leaves(3), weighs(3, 2)},
		} {
			c := p.clone()
			c.check(t)
			if c.c == p.c || c.c.Set == p.c.Set || c.c.Set.Queue == p.c.Set.Queue {
				t.Fatal("a clone is the core itself, or has its set")
			}
			// Each goes on by itself.
			p.take(t, l[0])
			c.check(t)
			c.take(t, l[1])
			p.check(t)
			c.take(t, l[0])
			p.check(t)
			p.take(t, l[1])
			c.check(t)
		}
	}
}

func TestP18_1Nil(t *testing.T) {
	var c *core.Core
	if c.Clone() != nil || c.Run() != 0 || c.Carried() != (wide.Int{}) {
		t.Error("of nil something is told")
	}
	// Whatever else is wrong.
	for kind := range kinds {
		for _, x := range []turn{{kind: kind}, {kind: kind, id: 1, w: 1, ns: 1}, {kind: kind, id: -1, w: mostW + 1, ns: mostTick + 1}} {
			if a := x.take(c); !a.same(answer{e: api.ErrNil}) {
				t.Errorf("of nil, %+v: %+v", x, a)
			}
		}
	}
}

func TestP18_1EachCallSettles(t *testing.T) {
	// The second one lingers, and owes some grains; the first one runs.
	lingers := []turn{joins(1, 1, 5, 0), joins(2, 1, 5, 0), joins(3, 1, 9, 0), slicesTo(1, 1), ticks(5), ticks(5), sleeps(2)}
	for _, by := range origins() {
		before := pairOf(t, by, lingers...)
		if r, _ := before.c.Req(2); !r.Asleep || before.c.Run() != 3 {
			t.Fatalf("%+v, and %d runs", r, before.c.Run())
		}
		for _, c := range []struct {
			what turn
			gone int
			run  int
		}{
			// One that comes in behind, or one that goes ahead, brings the virtual time on.
			{joins(4, 1, 1, -30<<20), 2, 1},
			{joins(4, 1, 1, -1<<20), 0, 3},
			{leaves(3), 2, 1},
			{leaves(1), 0, 3},
			{sleeps(3), 2, 1},
			{sleeps(1), 0, 3},
			{wakes(2), 0, 3},
			{ticks(9), 2, 1},
			{ticks(1), 0, 3},
			{weighs(3, 1), 0, 3},
			{slicesTo(3, 1), 0, 3},
		} {
			p := before.clone()
			a := p.do(t, c.what, api.OK)
			var gone int
			if len(a.report.Gone) > 0 {
				gone = a.report.Gone[0].ID
			}
			if gone != c.gone || p.c.Run() != c.run {
				t.Errorf("of %+v there went %+v, and %d runs, wanted %d, %d", c.what, a.report.Gone, p.c.Run(), c.gone, c.run)
			}
		}
	}
}

func TestP18_1WhatGoesIsCarried(t *testing.T) {
	p := pairOf(t, 0, joins(1, 1, 5, 0), joins(2, 1, 5, 0), ticks(4), sleeps(1))
	if r, _ := p.c.Req(1); !r.Asleep || p.c.Carried() != wide.Of(4) {
		t.Fatalf("%+v, and %v was carried", r, p.c.Carried())
	}
	// At 4 and 0 nanoseconds: once the other one is at 5, it is owed a half of one.
	a := p.do(t, ticks(5), api.OK)
	if len(a.report.Gone) != 1 || a.report.Gone[0].Lag != wide.Of(grain/2) || p.c.Carried() != wide.Of(4+grain/2+2) {
		t.Errorf("there went %+v, and %v was carried", a.report.Gone, p.c.Carried())
	}
}

func TestP18_1AnswersAreNewMemory(t *testing.T) {
	l := []turn{joins(1, 1, 5, 0), joins(2, 1, 5, 0), joins(3, 1, 4, 0), ticks(4), sleeps(3)}
	p := pairOf(t, 0, l...)
	c := p.clone()
	a := p.do(t, ticks(9), api.OK)
	if len(a.report.Gone) != 1 || len(a.report.Parts) != 2 {
		t.Fatalf("%+v", a)
	}
	b := c.do(t, ticks(9), api.OK)
	wanted := b.report
	wanted.Gone, wanted.Parts = slices.Clone(b.report.Gone), slices.Clone(b.report.Parts)
	clear(a.report.Gone)
	clear(a.report.Parts)
	_ = append(a.report.Parts[:1], core.Part{ID: 9})
	_ = append(a.report.Gone[:0], settle.Gone{ID: 9})
	p.check(t)
	c.check(t)
	if !slices.Equal(b.report.Gone, wanted.Gone) || !slices.Equal(b.report.Parts, wanted.Parts) {
		t.Error("two answers share something")
	}
}

func TestP18_2Join(t *testing.T) {
	for _, by := range origins() {
		p := pairOf(t, by+10, joins(7, 1, 3, 0))
		wanted := req.Req{Item: item.Item{Pos: pos.Pos{Time: by + 10, W: 1}, ID: 7, Dead: pos.Pos{Time: by + 10 + 3<<20, W: 1}}, Left: 3, Slice: 3}
		if r, ok := p.c.Req(7); r != wanted || !ok || p.c.Run() != 7 || p.c.Carried() != wide.Of(2) {
			t.Errorf("the first one is %+v", r)
		}
		// One that is owed 2 comes in at 6: both together are at 8 then.
		p.do(t, joins(3, 1, 1, 2), api.OK)
		if r, _ := p.c.Req(3); r.Time != by+6 || p.c.Now() != by+8 || p.c.Run() != 3 || p.c.Carried() != wide.Of(6) {
			t.Errorf("the second one is %+v, now %d, and %v was carried", r, p.c.Now(), p.c.Carried())
		}
		p.do(t, joins(4, 5, 2, -3), api.OK)
		if lag, _ := p.c.Lag(4); lag != wide.Of(-3) || p.c.Carried() != wide.Of(11) {
			t.Errorf("the lag of the third one is %v, and %v was carried", lag, p.c.Carried())
		}
	}
}

func TestP18_2JoinOfNobodyLetsTheLagGo(t *testing.T) {
	for _, by := range origins() {
		for _, lag := range []int64{0, 1, -1, math.MaxInt64, math.MinInt64} {
			p := pairOf(t, by, joins(1, mostW, mostSlice, lag))
			if r, _ := p.c.Req(1); r.Time != by || r.R != 0 || p.c.Carried() != wide.Of(2) {
				t.Errorf("it is %+v, and %v was carried", r, p.c.Carried())
			}
			// The clock of a core that was left is where it was.
			p.do(t, ticks(mostTick), api.OK)
			p.do(t, leaves(1), api.OK)
			p.do(t, joins(2, 1, 1, lag), api.OK)
			if r, _ := p.c.Req(2); r.Time != by+mostTick {
				t.Errorf("the next one is %+v", r)
			}
		}
	}
}

func TestP18_2JoinErrors(t *testing.T) {
	const far = most/2 - grain/2
	for _, by := range origins() {
		p := pairOf(t, by, joins(1, 1, 1, 0))
		for _, c := range []struct {
			x turn
			e api.Errno
		}{
			{joins(2, 1, 1, 0), api.OK},
			{joins(math.MaxInt, mostW, mostSlice, 0), api.OK},
			{joins(0, 1, 1, 0), api.ErrArg},
			{joins(-1, 1, 1, 0), api.ErrArg},
			{joins(math.MinInt, 1, 1, 0), api.ErrArg},
			{joins(2, 0, 1, 0), api.ErrArg},
			{joins(2, mostW+1, 1, 0), api.ErrArg},
			{joins(2, math.MaxUint32, 1, 0), api.ErrArg},
			{joins(2, 1, 0, 0), api.ErrArg},
			{joins(2, 1, mostSlice+1, 0), api.ErrArg},
			{joins(2, 1, 1<<44+1, 0), api.ErrArg},
			{joins(2, 1, math.MaxUint64, 0), api.ErrArg},
			{joins(1, 1, 1, 0), api.ErrThere},
			{joins(1, 1, 1, math.MinInt64), api.ErrThere},
			{joins(1, 0, 1, 0), api.ErrArg},
			{joins(1, 1, 0, math.MinInt64), api.ErrArg},
			{joins(0, 1, 1, math.MinInt64), api.ErrArg},
			{joins(2, 1, 1, far), api.OK},
			{joins(2, 1, 1, far+1), api.ErrSpread},
			{joins(2, 1, 1, -far), api.OK},
			{joins(2, 1, 1, -far-1), api.ErrSpread},
			{joins(2, 1, 2, -far), api.ErrSpread},
			{joins(2, 1, 1, most-1), api.ErrSpread},
			{joins(2, 1, 1, most), api.ErrSpread},
			{joins(2, 1, 1, most+1), api.ErrSpread},
			{joins(2, 1, 1, -most), api.ErrSpread},
			{joins(2, 1, 1, -most-1), api.ErrSpread},
			{joins(2, 1, 1, math.MaxInt64), api.ErrSpread},
			{joins(2, 1, 1, math.MinInt64), api.ErrSpread},
			{joins(2, mostW, 1, math.MaxInt64), api.ErrSpread},
			{joins(2, mostW, 1, math.MinInt64), api.ErrSpread},
		} {
			p.clone().do(t, c.x, c.e)
		}
		// Of who joins lightly a core that is heavy, the lag alone tells how far that is.
		heavy := pairOf(t, by, joins(1, mostW, 1, 0))
		heavy.clone().do(t, joins(2, 1, 1, most-1<<43), api.OK)
		heavy.clone().do(t, joins(2, 1, 1, math.MaxInt64), api.ErrSpread)
		heavy.clone().do(t, joins(2, mostW, 1, math.MaxInt64), api.OK)
		heavy.clone().do(t, joins(2, mostW, 1, math.MinInt64), api.OK)
	}
}

func TestP18_2Full(t *testing.T) {
	for _, by := range origins() {
		p := newPair(by)
		for i := range mostN {
			p.do(t, joins(i*5%mostN+1, uint32(i)%7+1, uint64(i)+1, int64(i)*100), api.OK)
		}
		p.do(t, joins(33, 1, 1, 0), api.ErrFull)
		p.do(t, joins(33, 1, 1, math.MinInt64), api.ErrFull)
		p.do(t, joins(33, 0, 1, 0), api.ErrArg)
		p.do(t, joins(32, 1, 1, 0), api.ErrThere)
		p.do(t, joins(32, 1, 1, math.MaxInt64), api.ErrThere)
		p.do(t, ticks(5), api.OK)
		c := p.clone()
		p.do(t, leaves(9), api.OK)
		p.do(t, joins(33, 1, 1, 0), api.OK)
		p.do(t, joins(9, 1, 1, 0), api.ErrFull)
		c.do(t, joins(33, 1, 1, 0), api.ErrFull)
	}
}

func TestP18_2Leave(t *testing.T) {
	for _, by := range origins() {
		p := pairOf(t, by+5, joins(1, 1, 9, 0), joins(2, 1, 9, 0), ticks(3))
		// At 3 and 0 nanoseconds.
		if p.c.Run() != 2 {
			t.Fatalf("%d runs", p.c.Run())
		}
		for _, c := range []struct {
			id   int
			lag  int64
			then int
		}{{1, -3 << 19, 2}, {2, 3 << 19, 1}} {
			q := p.clone()
			a := q.do(t, leaves(c.id), api.OK)
			if a.lag != wide.Of(c.lag) || q.c.Run() != c.then || q.c.Carried() != wide.Of(4+3<<19+2) || len(a.report.Gone)+len(a.report.Parts) != 0 {
				t.Errorf("%d leaves: %+v, %d runs, and %v was carried", c.id, a, q.c.Run(), q.c.Carried())
			}
			for _, id := range []int{c.id, 0, -1, 3, math.MinInt, math.MaxInt} {
				q.do(t, leaves(id), api.ErrNone)
			}
			b := q.do(t, leaves(c.then), api.OK)
			if b.lag != wide.Of(0) || q.c.Run() != 0 || q.c.Len() != 0 {
				t.Errorf("%d leaves: %+v, and %d runs", c.then, b, q.c.Run())
			}
		}
		// One that lingers leaves too.
		p.do(t, sleeps(1), api.OK)
		if a := p.do(t, leaves(1), api.OK); a.lag.Sign() >= 0 || len(a.report.Gone) != 0 {
			t.Errorf("one that lingers leaves: %+v", a)
		}
	}
}

func TestP18_2Sleep(t *testing.T) {
	for _, by := range origins() {
		p := pairOf(t, by+5, joins(1, 1, 3, 0), joins(2, 1, 3, 0))
		carried := p.c.Carried()
		// Both are owed nothing: who sleeps goes.
		q := p.clone()
		if a := q.do(t, sleeps(2), api.OK); !a.gone || a.lag != wide.Of(0) || q.c.Len() != 1 || q.c.Carried() != wide.Of(6) || len(a.report.Gone) != 0 {
			t.Errorf("who is owed nothing sleeps: %+v", a)
		}
		q.do(t, sleeps(2), api.ErrNone)
		p.do(t, ticks(1), api.OK)
		q = p.clone()
		if a := q.do(t, sleeps(2), api.OK); !a.gone || a.lag != wide.Of(grain/2) || q.c.Len() != 1 || q.c.Carried() != wide.Of(4+grain/2+2) {
			t.Errorf("who is owed some sleeps: %+v", a)
		}
		// Who had more than its share lingers, and nothing is carried.
		a := p.do(t, sleeps(1), api.OK)
		r, _ := p.c.Req(1)
		if a.gone || a.lag != wide.Of(-grain/2) || p.c.Len() != 2 || !r.Asleep || p.c.Carried() != carried || p.c.Run() != 2 {
			t.Errorf("who owes some sleeps: %+v, it is %+v, and %v was carried", a, r, p.c.Carried())
		}
		p.do(t, sleeps(1), api.ErrState)
		for _, id := range []int{0, -1, 3, math.MinInt, math.MaxInt} {
			p.do(t, sleeps(id), api.ErrNone)
		}
		// With the last one that is runnable all are gone.
		b := p.do(t, sleeps(2), api.OK)
		if !b.gone || len(b.report.Gone) != 1 || b.report.Gone[0].ID != 1 || b.report.Gone[0].Lag != wide.Of(0) || p.c.Len() != 0 || p.c.Run() != 0 {
			t.Errorf("the last one sleeps: %+v", b)
		}
	}
}

func TestP18_2SleepByLessThanAGrain(t *testing.T) {
	for _, by := range origins() {
		// It comes in with the lag 0, and the rounding is its own: it is owed less than a grain.
		p := pairOf(t, by, joins(1, 3, 3, 0), joins(2, 3, 3, 0), joins(4, 1, 3, -1), joins(3, 2, 3, 0))
		for _, r := range p.c.Reqs() {
			sign, _ := p.c.Owed(r.ID)
			lag, _ := p.c.Lag(r.ID)
			a := p.clone().do(t, sleeps(r.ID), api.OK)
			if a.gone != (sign >= 0) || a.lag != lag {
				t.Errorf("%d, of the lag %v, sleeps: %+v", r.ID, lag, a)
			}
		}
	}
}

func TestP18_2Wake(t *testing.T) {
	for _, by := range origins() {
		p := pairOf(t, by, joins(1, 1, 3, 0), joins(2, 1, 3, 0), ticks(1))
		for _, id := range []int{1, 2} {
			p.do(t, wakes(id), api.ErrState)
		}
		for _, id := range []int{0, -1, 3, math.MinInt, math.MaxInt} {
			p.do(t, wakes(id), api.ErrNone)
		}
		lag := p.do(t, sleeps(1), api.OK).lag
		carried := p.c.Carried()
		p.do(t, wakes(1), api.OK)
		r, _ := p.c.Req(1)
		if now, _ := p.c.Lag(1); r.Asleep || now != lag || p.c.Carried() != carried || p.c.Runnable() != 2 {
			t.Errorf("it is awake: %+v, its lag %v, wanted %v", r, now, lag)
		}
		p.do(t, wakes(1), api.ErrState)
		p.do(t, sleeps(1), api.OK)
		// It is asleep in its request, however far that got; it is woken in the same one.
		p.do(t, wakes(1), api.OK)
		if r, _ := p.c.Req(1); r.Left != 2 || r.Slice != 3 {
			t.Errorf("it is awake: %+v", r)
		}
	}
}

func TestP18_3Weigh(t *testing.T) {
	for _, by := range origins() {
		// At 6 and 0 nanoseconds, now at 3.
		p := pairOf(t, by, joins(1, 1, 6, 0), joins(2, 1, 9, 0), ticks(6))
		q := p.clone()
		q.do(t, weighs(1, 3), api.OK)
		wanted := req.Req{Item: item.Item{Pos: pos.Pos{Time: by + 4<<20, W: 3}, ID: 1, Dead: pos.Pos{Time: by + 6<<20, W: 3}}, Left: 6, Slice: 6}
		lag, _ := q.c.Lag(1)
		if r, _ := q.c.Req(1); r != wanted || lag != wide.Of(-3<<20) || q.c.Carried() != wide.Of(4+3<<20+2) || q.c.Now() != by+3<<20 {
			t.Errorf("it is %+v, its lag %v, and %v was carried", r, lag, q.c.Carried())
		}
		// Of the weight that it has it stays where it is, but its lag is carried.
		q = p.clone()
		l := q.c.Reqs()
		q.do(t, weighs(1, 1), api.OK)
		if !slices.Equal(q.c.Reqs(), l) || q.c.Carried() != wide.Of(4+3<<20+2) {
			t.Errorf("of the same weight: %+v, and %v was carried", q.c.Reqs(), q.c.Carried())
		}
		// One that lingers is weighed asleep.
		p.do(t, sleeps(1), api.OK)
		p.do(t, weighs(1, mostW), api.OK)
		if r, _ := p.c.Req(1); !r.Asleep || r.W != mostW {
			t.Errorf("it is %+v", r)
		}
		for _, w := range []uint32{0, mostW + 1, math.MaxUint32} {
			p.do(t, weighs(1, w), api.ErrArg)
			p.do(t, weighs(3, w), api.ErrArg)
		}
		for _, id := range []int{0, -1, 3, math.MinInt, math.MaxInt} {
			p.do(t, weighs(id, 1), api.ErrNone)
		}
	}
}

func TestP18_3WeighedAnewAnotherOneRuns(t *testing.T) {
	p := pairOf(t, 0, joins(1, 1, 5, 0), joins(2, 1, 6, 0))
	p.do(t, weighs(2, 2), api.OK)
	if p.c.Run() != 2 {
		t.Errorf("%d runs", p.c.Run())
	}
	p.do(t, weighs(1, 2), api.OK)
	if p.c.Run() != 1 {
		t.Errorf("%d runs", p.c.Run())
	}
}

func TestP18_3WeighSpread(t *testing.T) {
	const far = most/2 - grain/2
	for _, by := range origins() {
		// Of two of weight 2 the second one comes in at twice its lag, divided by 2; of weight 1 it would be at 2 thirds as far again.
		p := pairOf(t, by, joins(1, 1, 1, 0), joins(2, 2, 1, -far))
		r, _ := p.c.Req(2)
		p.do(t, weighs(2, 1), api.OK)
		moved, _ := p.c.Req(2)
		if moved.Since(r.Time) <= 0 {
			t.Errorf("it is moved from %+v to %+v", r, moved)
		}
		near := pairOf(t, by, joins(1, 1, 1, 0), joins(2, 2, 1, -far-1))
		near.do(t, weighs(2, 1), api.ErrSpread)
		near.do(t, weighs(2, 2), api.OK)
		// So far that there is no such position.
		heavy := pairOf(t, by, joins(1, mostW, 1, 0), joins(2, mostW, 1, math.MaxInt64), joins(3, mostW, 1, math.MinInt64))
		for _, id := range []int{2, 3} {
			heavy.do(t, weighs(id, 1), api.ErrSpread)
			heavy.do(t, weighs(id, 0), api.ErrArg)
			heavy.do(t, weighs(id, mostW), api.OK)
		}
		heavy.do(t, weighs(4, 1), api.ErrNone)
		// Of the weight 1 its deadline is 2^60 behind it, and it twice as far as its lag.
		for _, c := range []struct {
			lag int64
			e   api.Errno
		}{{-3 << 59, api.OK}, {-3<<59 - 1, api.ErrSpread}} {
			due := pairOf(t, by, joins(1, 1, 1, 0), joins(2, mostW, mostSlice, c.lag), sleeps(2))
			due.do(t, weighs(2, 1), c.e)
		}
	}
}

func TestP18_3Slice(t *testing.T) {
	for _, by := range origins() {
		p := pairOf(t, by, joins(1, 1, 3, 0), joins(2, 1, 3, 0), ticks(1), sleeps(1))
		for _, id := range []int{1, 2} {
			r, _ := p.c.Req(id)
			for _, ns := range []uint64{1, mostSlice, 7} {
				carried := p.c.Carried()
				p.do(t, slicesTo(id, ns), api.OK)
				r.Slice = ns
				if got, _ := p.c.Req(id); got != r || p.c.Carried() != carried {
					t.Errorf("it is %+v, wanted %+v", got, r)
				}
			}
		}
		for _, ns := range []uint64{0, mostSlice + 1, 1<<44 + 1, math.MaxUint64} {
			p.do(t, slicesTo(1, ns), api.ErrArg)
			p.do(t, slicesTo(3, ns), api.ErrArg)
		}
		for _, id := range []int{0, -1, 3, math.MinInt, math.MaxInt} {
			p.do(t, slicesTo(id, 1), api.ErrNone)
		}
		// The next request has the new slice.
		a := p.do(t, ticks(4), api.OK)
		if !slices.Equal(a.report.Parts, []core.Part{{ID: 2, Ns: 3, Done: true}, {ID: 2, Ns: 1}}) {
			t.Errorf("%+v", a.report)
		}
		if r, _ := p.c.Req(2); r.Left != 6 || r.Slice != 7 {
			t.Errorf("it is %+v", r)
		}
	}
}

func TestP18_4Tick(t *testing.T) {
	for _, c := range []struct {
		what  string
		l     []turn
		ns    uint64
		parts []core.Part
		gone  []int
		run   int
	}{
		{"nobody", nil, 5, nil, nil, 0},
		{"one alone", []turn{joins(1, 1, 2, 0)}, 5, []core.Part{{ID: 1, Ns: 2, Done: true}, {ID: 1, Ns: 2, Done: true}, {ID: 1, Ns: 1}}, nil, 1},
		{"just its request", []turn{joins(1, 1, 5, 0)}, 5, []core.Part{{ID: 1, Ns: 5, Done: true}}, nil, 1},
		{"less than its request", []turn{joins(1, 1, 6, 0)}, 5, []core.Part{{ID: 1, Ns: 5}}, nil, 1},
		{"two of the slice 2", []turn{joins(1, 1, 2, 0), joins(2, 1, 2, 0)}, 4, []core.Part{{ID: 1, Ns: 2, Done: true}, {ID: 2, Ns: 2, Done: true}}, nil, 1},
		{"what was left", []turn{joins(1, 1, 3, 0), ticks(2)}, 2, []core.Part{{ID: 1, Ns: 1, Done: true}, {ID: 1, Ns: 1}}, nil, 1},
		{"who had its share waits, though it is due first", []turn{joins(1, 1, 2, 0), joins(2, 1, 3, 0), ticks(1)}, 2, []core.Part{{ID: 2, Ns: 2}}, nil, 1},
		{"of one of three times the weight", []turn{joins(1, 3, 3, 0), joins(2, 1, 3, 0)}, 8, []core.Part{{ID: 1, Ns: 3, Done: true}, {ID: 2, Ns: 3, Done: true}, {ID: 1, Ns: 2}}, nil, 1},
		{"one that lingers goes on the way", []turn{joins(1, 1, 4, 0), joins(2, 1, 9, 0), ticks(2), sleeps(1)}, 3, []core.Part{{ID: 2, Ns: 3}}, []int{1}, 2},
		{"one goes between two parts", []turn{joins(1, 1, 4, 0), joins(2, 1, 2, 0), joins(3, 1, 2, 0), ticks(5), sleeps(2)}, 6, []core.Part{{ID: 1, Ns: 3, Done: true}, {ID: 3, Ns: 2, Done: true}, {ID: 3, Ns: 1}}, []int{2}, 1},
		{"the greatest tick", []turn{joins(1, 1, mostSlice, 0), joins(2, mostW, mostSlice, 0)}, mostTick, []core.Part{{ID: 2, Ns: mostSlice, Done: true}}, nil, 1},
	} {
		for _, by := range origins() {
			p := pairOf(t, by, c.l...)
			a := p.do(t, ticks(c.ns), api.OK)
			var gone []int
			for _, g := range a.report.Gone {
				gone = append(gone, g.ID)
			}
			if !slices.Equal(a.report.Parts, c.parts) || !slices.Equal(gone, c.gone) || p.c.Run() != c.run {
				t.Errorf("%s: %+v, there went %v, and %d runs", c.what, a.report.Parts, gone, p.c.Run())
			}
		}
	}
}

func TestP18_4TickErrors(t *testing.T) {
	p := pairOf(t, 0, joins(1, 1, mostSlice, 0))
	none := newPair(0)
	for _, ns := range []uint64{0, mostTick + 1, 1 << 44, math.MaxUint64} {
		p.do(t, ticks(ns), api.ErrArg)
		none.do(t, ticks(ns), api.ErrArg)
	}
	for _, ns := range []uint64{1, mostTick} {
		p.do(t, ticks(ns), api.OK)
		none.do(t, ticks(ns), api.OK)
	}
}

// Who runs is due no later than the last one in place, so no tick leaves the spread: a core is brought there only by hand.
func TestP18_4TickThatLeavesTheSpread(t *testing.T) {
	for _, by := range origins() {
		c := core.New(by)
		c.Join(1, 1, mostSlice, 0)
		c.Join(2, 1, mostSlice, 0)
		r, _ := c.Req(2)
		far, _ := r.Moved(pos.Pos{Time: by - 3<<60, W: 1})
		if e := c.Put(far); e != api.OK || c.Run() != 1 {
			t.Fatalf("%d, and %d runs", e, c.Run())
		}
		l, carried := c.Reqs(), c.Carried()
		report, e := c.Tick(mostTick)
		if e != api.ErrSpread || len(report.Parts) != 0 || len(report.Gone) != 0 {
			t.Errorf("%+v, %d", report, e)
		}
		if !slices.Equal(c.Reqs(), l) || c.Run() != 1 || c.Carried() != carried {
			t.Errorf("a refused tick has changed something: %+v, wanted %+v", c.Reqs(), l)
		}
		if _, e := c.Tick(mostTick - 1); e != api.OK {
			t.Errorf("of a tick that leaves one nanosecond: %d", e)
		}
	}
}

// A size tells how great numbers are that turns are made of, of how many IDs, and how many of them join.
type size struct {
	heavy, slice, fine, reach int
	ids, joins                int
}

func sizeOf(next func(n int) int) size {
	s := size{heavy: next(21), slice: next(40), fine: next(12), reach: []int{next(63), 59 + next(4)}[next(2)], ids: []int{4, 9, 36}[next(3)], joins: 4}
	if s.ids == 36 {
		s.joins = []int{4, 60}[next(2)]
	}
	return s
}

// wrong: of many numbers one may not be.
func wrong(next func(n int) int, x turn) turn {
	switch next(4) {
	case 0:
		x.id = []int{0, -1, 50, math.MaxInt, math.MinInt}[next(5)]
	case 1:
		x.w = []uint32{0, mostW + 1, math.MaxUint32}[next(3)]
	case 2:
		x.ns = []uint64{0, mostSlice + 1, math.MaxUint64}[next(3)]
	case 3:
		x.lag = []int64{math.MinInt64, math.MaxInt64, most, -most}[next(4)]
	}
	return x
}

// turnOf is one without a pattern. Slices are alike, so that no tick has too many parts.
func turnOf(next func(n int) int, s size) turn {
	kind := join
	if k := next(12 + s.joins); k < 12 {
		kind = []int{leave, sleep, sleep, sleep, wake, weigh, slice, tick, tick, tick, tick, tick}[k]
	}
	x := turn{kind: kind, id: 1 + next(s.ids), w: uint32(1 + next(1<<next(s.heavy+1)))}
	x.ns = uint64(1<<s.slice + next(1<<s.slice))
	if kind == tick {
		x.ns = min(uint64(1+next(8<<s.slice>>min(s.slice, s.fine))), mostTick)
	}
	x.lag = int64(next(2<<s.reach)) - 1<<s.reach
	if next(25) == 0 {
		return wrong(next, x)
	}
	return x
}

func TestP18_4Turns(t *testing.T) {
	told := map[[2]int]int{}
	var went, done int
	for seed := range 60 {
		next := chance(seed)
		s := sizeOf(next)
		p := newPair(origins()[seed%7])
		kept := p.clone()
		for i := range 250 {
			x := turnOf(next, s)
			a := p.take(t, x)
			told[[2]int{x.kind, int(a.e)}]++
			went += len(a.report.Gone)
			done += len(a.report.Parts)
			if i%40 == 0 {
				// A clone that is left behind stays what it was, and goes on as well as the core itself.
				kept.check(t)
				p, kept = p.clone(), p
			}
		}
	}
	for _, c := range [][2]api.Errno{
		{join, api.OK}, {join, api.ErrArg}, {join, api.ErrThere}, {join, api.ErrFull}, {join, api.ErrSpread},
		{leave, api.OK}, {leave, api.ErrNone}, {sleep, api.OK}, {sleep, api.ErrNone}, {sleep, api.ErrState},
		{wake, api.OK}, {wake, api.ErrNone}, {wake, api.ErrState},
		{weigh, api.OK}, {weigh, api.ErrArg}, {weigh, api.ErrNone}, {weigh, api.ErrSpread},
		{slice, api.OK}, {slice, api.ErrArg}, {slice, api.ErrNone}, {tick, api.OK}, {tick, api.ErrArg},
	} {
		if n := told[[2]int{int(c[0]), int(c[1])}]; n < 5 {
			t.Errorf("of the kind %d the error %d was told %d times", c[0], c[1], n)
		}
	}
	if went < 200 || done < 5000 {
		t.Errorf("there went %d, and there were %d parts", went, done)
	}
}

func lags(c *core.Core) map[int]wide.Int {
	l := map[int]wide.Int{}
	for _, r := range c.Reqs() {
		l[r.ID], _ = c.Lag(r.ID)
	}
	return l
}

func TestP18_5AllOfATickIsServed(t *testing.T) {
	for seed := range 40 {
		next := chance(100 + seed)
		s := sizeOf(next)
		c := core.New(origins()[seed%7])
		for range 300 {
			x := turnOf(next, s)
			before, awake := lags(c), c.Runnable()
			a := x.take(c)
			if x.kind != tick || a.e != api.OK {
				continue
			}
			var served uint64
			for _, p := range a.report.Parts {
				served += p.Ns
			}
			if served != x.ns && awake > 0 || served != 0 && awake == 0 || c.Runnable() != awake {
				t.Fatalf("of a tick of %d %d were served", x.ns, served)
			}
			// No lag is brought below what it was, or below as much as the tick.
			least, _ := wide.OfU(x.ns * grain).Neg()
			for id, lag := range lags(c) {
				if was := before[id]; lag.Cmp(was) < 0 && lag.Cmp(least) < 0 {
					t.Fatalf("a tick of %d brought the lag of %d from %v to %v", x.ns, id, was, lag)
				}
			}
		}
	}
}

// unlike is a turn of one that joins with no lag, and of slices from the least to many ticks: so little is carried, and much waited for.
func unlike(next func(n int) int, s size) turn {
	x := turnOf(next, s)
	x.lag = 0
	x.ns = uint64(1 + next(1<<next(20)))
	if x.kind == tick {
		x.ns = uint64(1 + next(8))
	}
	return x
}

func TestP18_5NobodyIsOwedTooMuch(t *testing.T) {
	var owed [2]int
	for seed := range 120 {
		next := chance(200 + seed)
		s := sizeOf(next)
		c := core.New(origins()[seed%7])
		var greatest uint64
		for range 400 {
			x := unlike(next, s)
			if a := x.take(c); x.kind == tick && a.e == api.OK {
				greatest = max(greatest, x.ns)
			}
			window, _ := wide.OfU(greatest * grain).Add(c.Carried())
			for _, r := range c.Reqs() {
				lag, _ := c.Lag(r.ID)
				left := lag.Cmp(wide.OfU(r.Left*grain)) > 0
				wider := lag.Cmp(window) > 0
				if !r.Asleep && left && wider {
					t.Fatalf("%+v is owed %v, the window is %v", r, lag, window)
				}
				if left {
					owed[0]++
				}
				if wider {
					owed[1]++
				}
			}
		}
	}
	if owed[0] < 100 || owed[1] < 100 {
		t.Errorf("more than what is left was owed %d times, more than the window %d", owed[0], owed[1])
	}
}

func TestP5OfCoresNoOriginCanBeTold(t *testing.T) {
	for seed := range 7 {
		for _, by := range append(origins(), 1, half+1) {
			next := chance(300 + seed)
			s := sizeOf(next)
			c, shifted := core.New(77), core.New(77+by)
			for range 150 {
				x := turnOf(next, s)
				a, b := x.take(c), x.take(shifted)
				for i := range a.report.Gone {
					a.report.Gone[i].Req.Item = a.report.Gone[i].Req.Shift(by)
				}
				if !a.same(b) || c.Run() != shifted.Run() || c.Carried() != shifted.Carried() || c.Now()+by != shifted.Now() {
					t.Fatalf("%+v: %+v, but %+v where it is shifted by %d", x, a, b, by)
				}
			}
		}
	}
}

func TestP4AWeightTurnsNobodysLag(t *testing.T) {
	for seed := range 30 {
		next := chance(400 + seed)
		s := sizeOf(next)
		c := core.New(origins()[seed%7])
		for range 200 {
			x := turnOf(next, s)
			before := lags(c)
			if a := x.take(c); x.kind != weigh || a.e != api.OK {
				continue
			}
			for id, lag := range lags(c) {
				d, _ := lag.Sub(before[id])
				if d.Cmp(wide.Of(-1)) < 0 || d.Cmp(wide.Of(1)) > 0 {
					t.Fatalf("%+v turned the lag of %d from %v to %v", x, id, before[id], lag)
				}
			}
		}
	}
}

func TestACoresSetIsPromoted(t *testing.T) {
	c := pairOf(t, 5, joins(1, 1, 2, 0), joins(2, 1, 2, 0), ticks(1), sleeps(1)).c
	if c.Len() != 2 || c.Runnable() != 1 || c.N != 2 || c.W != 2 || c.Now() != 5+grain/2 || !c.Right() {
		t.Errorf("of two now is %d", c.Now())
	}
	if r, ok := c.Req(1); !ok || !r.Asleep || r.Left != 1 {
		t.Errorf("the first one is %+v", r)
	}
	if first, ok := c.Soonest(); !ok || first.ID != 2 || vtime.Spread(5, first.Time) != 0 {
		t.Errorf("the soonest is %+v", first)
	}
}

func TestExampleTwoOfTheSlice2(t *testing.T) {
	c := core.New(0)
	c.Join(1, 1, 2, 0)
	c.Join(2, 1, 2, 0)
	report, e := c.Tick(4)
	served := map[int]uint64{}
	for _, p := range report.Parts {
		served[p.ID] += p.Ns
	}
	if e != api.OK || served[1] != 2 || served[2] != 2 || len(served) != 2 {
		t.Errorf("of a tick of 4 there were served %v, %d", served, e)
	}
}
