package set_test

import (
	"math"
	"slices"
	"testing"

	"turnstone/api"
	"turnstone/item"
	"turnstone/pos"
	"turnstone/req"
	"turnstone/set"
	"turnstone/vtime"
)

func TestP16_1New(t *testing.T) {
	for _, clock := range origins() {
		p := newPair(clock)
		p.check(t)
		if p.s.Now() != clock || p.s.Len() != 0 || p.s.Runnable() != 0 || len(p.s.Reqs()) != 0 {
			t.Errorf("a new set of the clock %d isn't new", clock)
		}
		p.exit(t, 1, api.ErrNone)
		p.rouse(t, 1, true, api.ErrNone)
		p.put(t, whole(1, clock, 3), api.ErrNone)
		// No two share anything.
		set.New(clock).Enter(whole(1, clock, 3))
		p.check(t)
	}
}

func TestP16_1TheClockOfNoneAgain(t *testing.T) {
	for _, by := range origins() {
		p := pairOf(t, by+77, whole(1, by+5, 3), asleep(of(2, at(by+8, 2, 3), 4, 1)))
		p.exit(t, 1, api.OK)
		p.exit(t, 2, api.OK)
		if p.s.Now() != by+8 {
			t.Errorf("the clock is %d, wanted %d", p.s.Now(), by+8)
		}
		p.enter(t, whole(2, by+8+half, 1), api.OK)
	}
}

func TestP16_1ReqAndReqs(t *testing.T) {
	a, b, c := whole(math.MaxInt, 5, 9), asleep(of(10, at(3, 1, 2), 4, 2)), of(9, at(8, 0, 7), 1, 5)
	p := pairOf(t, 0, a, b, c)
	if got := p.s.Reqs(); !slices.Equal(got, []req.Req{c, b, a}) {
		t.Errorf("the requests are %+v", got)
	}
	if got, ok := p.s.Req(10); got != b || !ok {
		t.Errorf("the second one is %+v, %v", got, ok)
	}
	for _, id := range []int{0, -1, 1, 2, 11, math.MinInt, math.MaxInt - 1} {
		if got, ok := p.s.Req(id); got != (req.Req{}) || ok {
			t.Errorf("of %d: %+v, %v", id, got, ok)
		}
	}
}

func TestP16_1ReqsInWhateverOrderTheyCome(t *testing.T) {
	for first := range mostN {
		// Of an odd step all come, each once.
		for step := 1; step < mostN; step += 6 {
			p := newPair(7)
			for i := range mostN {
				id := (first+i*step)%mostN + 1
				r := of(id, at(vtime.Time(i), 0, uint32(id)), uint64(id), 5)
				r.Asleep = i%3 == 0
				if e, f := p.s.Enter(r), p.m.enter(r); e != api.OK || f != api.OK {
					t.Fatalf("%+v enters: %d, %d", r, e, f)
				}
			}
			p.check(t)
		}
	}
}

func TestP16_1Runnable(t *testing.T) {
	p := newPair(5)
	for n := range 6 {
		r := whole(n+1, 5, 3)
		r.Asleep = n%2 == 1
		p.enter(t, r, api.OK)
		if got := p.s.Runnable(); got != n/2+1 {
			t.Errorf("of %d %d are runnable", n+1, got)
		}
	}
	p.rouse(t, 2, false, api.OK)
	p.rouse(t, 4, false, api.OK)
	p.rouse(t, 6, false, api.OK)
	if got := p.s.Runnable(); got != 6 {
		t.Errorf("of all awake %d are runnable", got)
	}
	for n := range 6 {
		p.rouse(t, n+1, true, api.OK)
		if got := p.s.Runnable(); got != 5-n {
			t.Errorf("of %d asleep %d are runnable", n+1, got)
		}
	}
	p.put(t, whole(3, 9, 4), api.OK)
	if got := p.s.Runnable(); got != 1 {
		t.Errorf("of one that was put there awake %d are runnable", got)
	}
	p.exit(t, 3, api.OK)
	p.exit(t, 1, api.OK)
	if got := p.s.Runnable(); got != 0 || p.s.Len() != 4 {
		t.Errorf("of all asleep %d are runnable", got)
	}
}

func TestP16_1Clone(t *testing.T) {
	for _, by := range origins() {
		p := newPair(by)
		for n := range 7 {
			c := p.clone()
			c.check(t)
			if c.s == p.s || c.s.Queue == p.s.Queue {
				t.Fatal("a clone is the set itself, or has its queue")
			}
			// Each goes on by itself.
			id := n + 1
			p.enter(t, of(id, at(by+vtime.Time(n*n), 1, 3), 4, 2), api.OK)
			c.check(t)
			c.enter(t, asleep(of(id, at(by-vtime.Time(n), 1, 2), 1, 7)), api.OK)
			p.check(t)
			c.rouse(t, id, false, api.OK)
			p.rouse(t, id, true, api.OK)
			c.check(t)
			c.put(t, whole(id, by+50, 3), api.OK)
			p.check(t)
			p.put(t, of(id, at(by+vtime.Time(n*n)+1, 4, 5), 9, 9), api.OK)
			c.check(t)
			d := c.clone()
			c.exit(t, id, api.OK)
			p.check(t)
			d.check(t)
		}
	}
}

func TestP16_1Nil(t *testing.T) {
	var s *set.Set
	r := whole(1, 5, 9)
	if s.Clone() != nil || len(s.Reqs()) != 0 || s.Runnable() != 0 {
		t.Error("of nil something is told")
	}
	if got, ok := s.Req(1); got != (req.Req{}) || ok {
		t.Errorf("Req: %+v, %v", got, ok)
	}
	if e, f := s.Enter(r), s.Enter(req.Req{}); e != api.ErrNil || f != api.ErrNil {
		t.Errorf("Enter: %d, %d", e, f)
	}
	if e, f := s.Put(r), s.Put(req.Req{}); e != api.ErrNil || f != api.ErrNil {
		t.Errorf("Put: %d, %d", e, f)
	}
	if got, e := s.Exit(1); got != (req.Req{}) || e != api.ErrNil {
		t.Errorf("Exit: %+v, %d", got, e)
	}
	if e, f := s.Rouse(1, true), s.Rouse(1, false); e != api.ErrNil || f != api.ErrNil {
		t.Errorf("Rouse: %d, %d", e, f)
	}
}

func TestP16_1AnswersAreNewMemory(t *testing.T) {
	p := pairOf(t, 0, whole(1, 5, 9), whole(2, 6, 7), asleep(whole(3, 1, 8)))
	l, m := p.s.Reqs(), p.s.Reqs()
	clear(l)
	if !slices.Equal(m, p.m.reqs()) {
		t.Error("two answers share something")
	}
	clear(m)
	p.check(t)
	_ = append(p.s.Reqs()[:1], whole(7, 7, 7))
	p.check(t)
}

// wrong requests: the items of most of them may not be, the items of the others may.
func wrong() []req.Req {
	l := []req.Req{{}, whole(0, 5, 9), whole(-1, 5, 9), whole(math.MinInt, 5, 9), of(1, at(5, 0, 0), 9, 9), of(1, at(5, 3, 3), 9, 9), of(1, at(5, 0, mostW+1), 9, 9), whole(1, 5, mostSlice+1), of(1, at(5, 0, mostW), mostSlice+1, 9)}
	put := func(change func(r *req.Req)) {
		r := of(1, at(5, 1, 3), 4, 9)
		change(&r)
		l = append(l, r, asleep(r))
	}
	put(func(r *req.Req) { r.Left = 5 })
	put(func(r *req.Req) { r.Left, r.Dead = 0, r.Pos })
	put(func(r *req.Req) { r.Slice = 0 })
	put(func(r *req.Req) { r.Slice = mostSlice + 1 })
	put(func(r *req.Req) { r.Dead.Time++ })
	put(func(r *req.Req) { r.Dead.R = (r.Dead.R + 1) % 3 })
	put(func(r *req.Req) { r.Time-- })
	put(func(r *req.Req) { r.Dead = pos.Pos{} })
	return l
}

func TestP16_2EnterErrors(t *testing.T) {
	// The last deadline is 2 nanoseconds behind the second one, and now is 6.
	l := []req.Req{whole(1, 5, 1), whole(2, 8, 2)}
	last := vtime.Time(8 + 2<<20)
	for _, by := range origins() {
		for _, c := range []struct {
			what   string
			r      req.Req
			wanted api.Errno
		}{
			{"one more", whole(3, 6, 7), api.OK},
			{"one that is asleep", asleep(of(3, at(6, 4, 5), 7, 1)), api.OK},
			{"one that is there", whole(2, 8, 2), api.ErrThere},
			{"another one of its ID", asleep(of(1, at(6, 1, 2), 3, 3)), api.ErrThere},
			{"one just near enough", whole(3, 5+most-3<<20, 3), api.OK},
			{"one due too far behind", whole(3, 6+most-3<<20, 3), api.ErrSpread},
			{"one just near enough ahead", whole(3, last-most, 3), api.OK},
			{"one too far ahead", whole(3, last-most-1, 3), api.ErrSpread},
			{"half of the way round", whole(3, 6+half, 3), api.ErrSpread},
			{"there, and too far", whole(2, half, 3), api.ErrThere},
			{"may not be, and is there", of(2, at(8, 1, 1), 2, 2), api.ErrArg},
			{"may not be, and is too far", of(3, at(half, 0, 1), 2, 0), api.ErrArg},
			{"may not be, is there, and too far", of(1, at(half, 0, 1), 2, 0), api.ErrArg},
		} {
			p := newPair(by)
			for _, r := range l {
				p.enter(t, shifted(by, r), api.OK)
			}
			p.enter(t, shifted(by, c.r), c.wanted)
			if got, ok := p.s.Req(3); ok != (c.wanted == api.OK) || ok && got != shifted(by, c.r) {
				t.Errorf("%s: it is %+v, %v", c.what, got, ok)
			}
		}
		p, none := pairOf(t, by, shifted(by, l[0]), shifted(by, l[1])), newPair(by)
		for _, r := range wrong() {
			p.enter(t, shifted(by, r), api.ErrArg)
			none.enter(t, shifted(by, r), api.ErrArg)
		}
	}
}

func TestP16_2Full(t *testing.T) {
	for _, by := range origins() {
		p := newPair(by)
		for i := range mostN {
			w := uint32(1) << (i % 21)
			r := of(i*5%mostN+1, at(by+vtime.Time(i/3), w/2, w), 60-uint64(i), 9)
			r.Asleep = i%4 == 0
			p.enter(t, r, api.OK)
		}
		p.enter(t, whole(33, by+5, 6), api.ErrFull)
		p.enter(t, asleep(whole(33, by+half, 6)), api.ErrFull)
		p.enter(t, whole(7, by+5, 6), api.ErrThere)
		p.enter(t, of(33, at(by+5, 0, 1), 6, 0), api.ErrArg)
		p.put(t, whole(33, by+5, 6), api.ErrNone)
		p.put(t, whole(7, by+5, 6), api.OK)
		c := p.clone()
		p.exit(t, 33, api.ErrNone)
		p.exit(t, 20, api.OK)
		p.enter(t, whole(33, by+5, 6), api.OK)
		p.enter(t, whole(20, by+5, 6), api.ErrFull)
		c.enter(t, whole(33, by+5, 6), api.ErrFull)
		for _, r := range p.s.Reqs() {
			p.exit(t, r.ID, api.OK)
		}
		if p.s.Len() != 0 {
			t.Errorf("there are %d yet", p.s.Len())
		}
	}
}

func TestP16_2Exit(t *testing.T) {
	for _, by := range origins() {
		for _, order := range [][]int{{1, 2, 3}, {3, 2, 1}, {2, 3, 1}, {1, 3, 2}} {
			p := pairOf(t, by+1, whole(1, by+5, 9), asleep(of(2, at(by+8, 6, 7), 1, 4)), of(3, at(by+8, 0, mostW), mostSlice, 3))
			for _, going := range order {
				for _, id := range []int{0, -1, 4, math.MinInt, math.MaxInt} {
					p.exit(t, id, api.ErrNone)
				}
				p.exit(t, going, api.OK)
				p.exit(t, going, api.ErrNone)
				p.rouse(t, going, true, api.ErrNone)
				p.put(t, whole(going, by, 3), api.ErrNone)
			}
		}
	}
	// Who leaves is told as it was put there last, and may come again.
	p := pairOf(t, 0, whole(1, 5, 9))
	r := asleep(of(1, at(6, 1, 2), 3, 4))
	p.put(t, r, api.OK)
	if got, e := p.s.Exit(1); got != r || e != api.OK {
		t.Errorf("it leaves: %+v, %d", got, e)
	}
	p.m.exit(1)
	p.enter(t, whole(1, half, 2), api.OK)
}

func TestP16_2Put(t *testing.T) {
	l := []req.Req{whole(1, 5, 1), asleep(whole(2, 8, 2)), of(3, at(6, 1, 4), 12, 3)}
	last := vtime.Time(8 + 2<<20)
	third := vtime.Time(6 + 12<<18)
	for _, by := range origins() {
		for _, c := range []struct {
			what   string
			r      req.Req
			wanted api.Errno
		}{
			{"as it is", whole(1, 5, 1), api.OK},
			{"awake", whole(2, 8, 2), api.OK},
			{"asleep", asleep(whole(1, 5, 1)), api.OK},
			{"in its slice", of(1, at(5, 0, 1), 1, 7), api.OK},
			{"in what is left", of(3, at(6, 1, 4), 11, 3), api.OK},
			{"in its place", whole(1, 20, 1), api.OK},
			{"in its weight", of(1, at(5, 0, mostW), 1, 1), api.OK},
			{"in all", asleep(of(2, at(100, 76, 77), 8, 9)), api.OK},
			{"just near enough", whole(2, 5+most-3<<20, 3), api.OK},
			{"due too far behind", whole(2, 6+most-3<<20, 3), api.ErrSpread},
			{"just near enough ahead", whole(1, third-most, 1), api.OK},
			{"too far ahead", asleep(whole(1, third-most-1, 1)), api.ErrSpread},
			{"half of the way round", whole(2, 6+half, 3), api.ErrSpread},
			{"one that isn't there", whole(4, 8, 2), api.ErrNone},
			{"one that isn't there, and too far", whole(4, half, 2), api.ErrNone},
			{"one that may not be", of(2, at(8, 0, 1), 2, 0), api.ErrArg},
			{"one that may not be, and is too far", of(2, at(half, 0, 1), 2, 0), api.ErrArg},
			{"one that may not be, isn't there, and is too far", of(4, at(half, 0, 1), 2, 0), api.ErrArg},
		} {
			p := newPair(by)
			for _, r := range l {
				p.enter(t, shifted(by, r), api.OK)
			}
			p.put(t, shifted(by, c.r), c.wanted)
			if got, _ := p.s.Req(c.r.ID); got == shifted(by, c.r) != (c.wanted == api.OK) {
				t.Errorf("%s: it is %+v", c.what, got)
			}
		}
		p, none := pairOf(t, by, shifted(by, l[0]), shifted(by, l[1])), newPair(by)
		if p.s.Spread() != uint64(last-5) {
			t.Errorf("the spread is %d", p.s.Spread())
		}
		for _, r := range wrong() {
			p.put(t, shifted(by, r), api.ErrArg)
			none.put(t, shifted(by, r), api.ErrArg)
		}
		one := pairOf(t, by, whole(3, by+1, 2))
		one.put(t, asleep(whole(3, by+half, mostSlice)), api.OK)
		one.put(t, whole(3, by+1, 2), api.OK)
	}
}

func TestP16_2Rouse(t *testing.T) {
	for _, by := range origins() {
		p := pairOf(t, by, whole(1, by+5, 9), asleep(of(2, at(by+8, 1, 2), 2, 1)))
		for _, sleeps := range []bool{true, true, false, false, true} {
			for _, id := range []int{0, -1, 3, math.MinInt, math.MaxInt} {
				p.rouse(t, id, sleeps, api.ErrNone)
			}
			p.rouse(t, 1, sleeps, api.OK)
			p.rouse(t, 2, !sleeps, api.OK)
			one, _ := p.s.Req(1)
			two, _ := p.s.Req(2)
			if one.Asleep != sleeps || two.Asleep == sleeps || p.s.Runnable() != 1 {
				t.Errorf("asleep are %v, %v, wanted %v, %v", one.Asleep, two.Asleep, sleeps, !sleeps)
			}
		}
	}
}

func TestP16_3WhoSleepsCountsAlike(t *testing.T) {
	for _, by := range origins() {
		l := []req.Req{whole(1, by, 4), of(2, at(by+3, 1, 2), 3, 3), of(3, at(by+7, 500, 1000), 1, 9), whole(4, by+2, 1)}
		awake := pairOf(t, by, l...)
		// Whoever of them sleeps, from the beginning on or since.
		for who := range 16 {
			since, always := pairOf(t, by, l...), newPair(by)
			for i, r := range l {
				r.Asleep = who>>i&1 == 1
				always.enter(t, r, api.OK)
				since.rouse(t, r.ID, r.Asleep, api.OK)
			}
			sameQueue(t, since.s.Queue, awake.s.Queue)
			sameQueue(t, always.s.Queue, awake.s.Queue)
			if !slices.Equal(since.s.Reqs(), always.s.Reqs()) {
				t.Errorf("of %b asleep: %+v, wanted %+v", who, since.s.Reqs(), always.s.Reqs())
			}
		}
	}
}

// A turn is what is asked of a set: that a request enters (0), is put (1), leaves (2), or is roused (3).
type turn struct {
	kind int
	r    req.Req
}

// turns without a pattern: most requests lie near the others, some as far as may be, and some further.
func turns(seed, n int) []turn {
	next := chance(seed)
	var l []turn
	var walked vtime.Time
	for range n {
		walked += vtime.Time(next(1<<59) >> next(60))
		w := uint32(1 + next(mostW)>>next(20))
		time := walked + vtime.Time(next(1<<61)>>next(60))
		switch next(12) {
		case 0:
			time += most - farthest
		case 1:
			time -= most - farthest
		case 2:
			time = vtime.Time(next(math.MaxInt)) << 1
		}
		r := of(1+next(40), at(time, uint32(next(int(w))), w), 1+uint64(next(mostSlice)>>next(40)), 1+uint64(next(mostSlice)>>next(40)))
		r.Asleep = next(3) == 0
		if next(20) == 0 {
			r.Left++
		}
		l = append(l, turn{[]int{0, 0, 0, 1, 1, 2, 3, 3}[next(8)], r})
	}
	return l
}

func (x turn) shift(by vtime.Time) turn { return turn{x.kind, shifted(by, x.r)} }

// take does what a turn asks for: who left is told, too.
func (x turn) take(s *set.Set) (req.Req, api.Errno) {
	switch x.kind {
	case 0:
		return req.Req{}, s.Enter(x.r)
	case 1:
		return req.Req{}, s.Put(x.r)
	case 2:
		return s.Exit(x.r.ID)
	}
	return req.Req{}, s.Rouse(x.r.ID, x.r.Asleep)
}

func (x turn) model(m *model) (req.Req, api.Errno) {
	switch x.kind {
	case 0:
		return req.Req{}, m.enter(x.r)
	case 1:
		return req.Req{}, m.put(x.r)
	case 2:
		return m.exit(x.r.ID)
	}
	return req.Req{}, m.rouse(x.r.ID, x.r.Asleep)
}

func TestP16_2Turns(t *testing.T) {
	told := map[[2]int]int{}
	for seed := range 8 {
		p := newPair(origins()[seed%7])
		kept := p.clone()
		for i, x := range turns(seed, 400) {
			got, e := x.take(p.s)
			if wanted, is := x.model(&p.m); got != wanted || e != is {
				t.Fatalf("%+v, of %+v: %+v, %d, wanted %+v, %d", x, p.m.l, got, e, wanted, is)
			}
			told[[2]int{x.kind, int(e)}]++
			p.check(t)
			if i%40 == 0 {
				// A clone that is left behind stays what it was, and goes on as well as the set itself.
				kept.check(t)
				p, kept = p.clone(), p
			}
		}
	}
	for _, c := range [][2]int{
		{0, int(api.OK)}, {0, int(api.ErrArg)}, {0, int(api.ErrThere)}, {0, int(api.ErrSpread)},
		{1, int(api.OK)}, {1, int(api.ErrArg)}, {1, int(api.ErrNone)}, {1, int(api.ErrSpread)},
		{2, int(api.OK)}, {2, int(api.ErrNone)}, {3, int(api.OK)}, {3, int(api.ErrNone)},
	} {
		if told[c] < 10 {
			t.Errorf("of the kind %d the error %d was told %d times", c[0], c[1], told[c])
		}
	}
}

func TestP5OfSetsNoOriginCanBeTold(t *testing.T) {
	for seed := range 3 {
		for _, by := range append(origins(), 1, half+1) {
			s, shiftedSet := set.New(77), set.New(77+by)
			for _, x := range turns(20+seed, 150) {
				r, e := x.take(s)
				q, f := x.shift(by).take(shiftedSet)
				if e != f || q.ID != 0 && q != shifted(by, r) || q.ID != r.ID {
					t.Fatalf("%+v: %+v, %d, but %+v, %d where it is shifted by %d", x, r, e, q, f, by)
				}
				var wanted []req.Req
				for _, r := range s.Reqs() {
					wanted = append(wanted, shifted(by, r))
				}
				if !slices.Equal(shiftedSet.Reqs(), wanted) || shiftedSet.Runnable() != s.Runnable() || shiftedSet.Now() != s.Now()+by {
					t.Fatalf("shifted by %d: %+v, wanted %+v", by, shiftedSet.Reqs(), wanted)
				}
			}
		}
	}
}

func TestASetsQueueIsPromoted(t *testing.T) {
	s := pairOf(t, 0, whole(1, 5, 1), asleep(whole(2, 8, 1))).s
	if s.Now() != 6 || s.Len() != 2 || s.N != 2 || s.W != 2 || !s.Right() {
		t.Errorf("of two now is %d", s.Now())
	}
	a, ok := s.Soonest()
	owed, e := s.Lag(2)
	if one := whole(1, 5, 1).Item; a != one || !ok || owed.String() != "-2" || e != api.OK {
		t.Errorf("the soonest is %+v, %v, and the lag %v, %d", a, ok, owed, e)
	}
	if l := s.Items(); !slices.Equal(l, []item.Item{whole(1, 5, 1).Item, whole(2, 8, 1).Item}) {
		t.Errorf("the items are %+v", l)
	}
}
