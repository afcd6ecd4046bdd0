package sched_test

import (
	"math"
	"slices"
	"testing"

	"turnstone/api"
	"turnstone/limits"
	"turnstone/sched"
	"turnstone/table"
	"turnstone/wide"
)

// A size tells how great numbers are that turns are made of, and of how many cores and IDs.
type size struct {
	cores, tasks, heavy, slice int
	tick                       uint64
}

func sizeOf(next func(n int) int) size {
	s := size{cores: 1 + next(4), tasks: []int{3, 8, mostTasks}[next(3)], heavy: next(21), slice: next(40)}
	s.tick = uint64(1 + next(4<<s.slice))
	s.tick = min(s.tick, mostTick)
	return s
}

func (s size) config(origin uint64) limits.Config {
	return limits.Config{Cores: s.cores, Tasks: s.tasks, Tick: s.tick, Slice: 2 << s.slice, Origin: origin}
}

// far is a system on whose second core some lie nearly as far apart as they may, and some more sleep that owe much.
func far(t *testing.T, origin uint64) *pair {
	t.Helper()
	p := owing(t, origin, 12)
	for id := 3; id <= 8; id++ {
		p.all(t, slicesTo(id, mostSlice/2), wakes(id))
	}
	return p
}

// wrong: of many numbers one may not be.
func wrong(next func(n int) int, x turn) turn {
	switch next(4) {
	case 0:
		x.id = []int{0, -1, mostTasks + 1, math.MaxInt, math.MinInt}[next(5)]
	case 1:
		x.core = []int{-1, mostCores, math.MaxInt, math.MinInt}[next(4)]
	case 2:
		x.w = []uint64{0, mostW + 1, 1<<32 + 1, math.MaxUint64}[next(4)]
	case 3:
		x.ns = []uint64{0, mostSlice + 1, math.MaxUint64}[next(3)]
	}
	return x
}

// turnOf is one without a pattern. Slices are alike, so that no tick has too many parts.
func turnOf(next func(n int) int, s size) turn {
	often := []int{
		spawn, spawn, spawn, exit, sleep, sleep, sleep, wake, wake, wake, wake, weight, weight, slice,
		migrate, migrate, migrate, migrate, tick, tick, tick, tick, tick, tick,
	}
	x := turn{kind: often[next(len(often))], id: 1 + next(s.tasks), core: next(s.cores)}
	x.w = uint64(1 + next(1<<next(s.heavy+1)))
	x.ns = uint64(1<<s.slice + next(1<<s.slice))
	if x.kind == tick {
		x.ns = min(s.tick, uint64(1+next(4<<s.slice>>next(min(s.slice, 12)+1))))
	}
	if next(25) == 0 {
		return wrong(next, x)
	}
	return x
}

func TestP21_3TurnsOfWhoLieFarApart(t *testing.T) {
	told := map[[2]int]int{}
	for seed := range 14 {
		next := chance(200 + seed)
		s := size{cores: 3, tasks: 14, heavy: 1, slice: 39, tick: mostTick}
		start := far(t, origins()[seed%7])
		for range 30 {
			p := start.clone()
			for range 10 {
				x := turnOf(next, s)
				told[[2]int{x.kind, int(p.take(t, x).e)}]++
			}
		}
	}
	for _, kind := range []int{wake, migrate} {
		if n := told[[2]int{kind, int(api.ErrSpread)}]; n < 3 {
			t.Errorf("of the kind %d the spread was told %d times", kind, n)
		}
	}
}

func TestP21_3Turns(t *testing.T) {
	told := map[[2]int]int{}
	var gone, parts, kept int
	for seed := range 90 {
		next := chance(seed)
		s := sizeOf(next)
		p := newPair(t, s.config(origins()[seed%7]))
		left := p.clone()
		for i := range 250 {
			x := turnOf(next, s)
			a := p.take(t, x)
			told[[2]int{x.kind, int(a.e)}]++
			for _, v := range a.events {
				if v.Gone {
					gone++
				} else {
					parts++
				}
			}
			for _, x := range p.s.Tasks() {
				if x.State == table.Sleeping && x.Lag != 0 {
					kept++
				}
			}
			if i%40 == 0 {
				// A clone that is left behind stays what it was, and goes on as well as the system itself.
				left.check(t)
				p, left = p.clone(), p
			}
		}
	}
	for _, c := range [][2]api.Errno{
		{spawn, api.OK}, {spawn, api.ErrCore}, {spawn, api.ErrRange}, {spawn, api.ErrFull},
		{exit, api.OK}, {exit, api.ErrTask}, {sleep, api.OK}, {sleep, api.ErrTask}, {sleep, api.ErrState},
		{wake, api.OK}, {wake, api.ErrTask}, {wake, api.ErrState},
		{weight, api.OK}, {weight, api.ErrTask}, {weight, api.ErrRange},
		{slice, api.OK}, {slice, api.ErrTask}, {slice, api.ErrRange},
		{migrate, api.OK}, {migrate, api.ErrTask}, {migrate, api.ErrCore},
		{tick, api.OK}, {tick, api.ErrRange},
	} {
		if n := told[[2]int{int(c[0]), int(c[1])}]; n < 3 {
			t.Errorf("of the kind %d the error %d was told %d times", c[0], c[1], n)
		}
	}
	if gone < 200 || parts < 5000 || kept < 5000 {
		t.Errorf("there went %d, there were %d parts, and %d kept a lag", gone, parts, kept)
	}
}

// told is all of a system that hangs on no Origin.
func told(t *testing.T, s *sched.System) ([]table.Task, []int, []wide.Int) {
	t.Helper()
	var lags []wide.Int
	for _, x := range s.Tasks() {
		lag, e := s.Lag(x.ID)
		if e != api.OK {
			t.Fatalf("of %d the lag is %v, %d", x.ID, lag, e)
		}
		lags = append(lags, lag)
	}
	for k, c := range s.Runs() {
		d, _ := s.Core(k)
		owed, _ := d.Lag(c)
		lags = append(lags, owed, d.Carried(), wide.OfU(d.Spread()))
		for _, r := range d.Reqs() {
			lags = append(lags, wide.OfU(r.Left), wide.OfU(uint64(r.R)), wide.Of(r.Since(d.Now())))
		}
	}
	return s.Tasks(), s.Runs(), lags
}

func TestP21_4NoOriginIsTold(t *testing.T) {
	for seed := range 20 {
		next := chance(300 + seed)
		size := sizeOf(next)
		var l []*sched.System
		for _, origin := range origins() {
			s, _ := sched.New(size.config(origin))
			l = append(l, s)
		}
		for range 200 {
			x := turnOf(next, size)
			wanted := x.take(l[0])
			tasks, runs, lags := told(t, l[0])
			for _, s := range l[1:] {
				if got := x.take(s); !got.same(wanted) {
					t.Fatalf("%+v of the origin %d: %+v, wanted %+v", x, s.Config().Origin, got, wanted)
				}
				a, b, c := told(t, s)
				if !slices.Equal(a, tasks) || !slices.Equal(b, runs) || !slices.Equal(c, lags) {
					t.Fatalf("behind %+v of the origin %d: %+v, %v, %v, wanted %+v, %v, %v", x, s.Config().Origin, a, b, c, tasks, runs, lags)
				}
			}
		}
	}
}

// All calls end, whatever they are asked.
func TestP21_4AnyTurns(t *testing.T) {
	for seed := range 10 {
		next := chance(400 + seed)
		size := sizeOf(next)
		p := newPair(t, size.config(origins()[seed%7]))
		for range 300 {
			x := turnOf(next, size)
			for range next(3) {
				x = wrong(next, x)
			}
			p.take(t, x)
		}
	}
}
