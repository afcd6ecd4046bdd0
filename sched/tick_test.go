package sched

import (
	"math"
	"slices"
	"testing"

	"turnstone/api"
	"turnstone/limits"
	"turnstone/pos"
	"turnstone/vtime"
)

// No tick leaves the spread of a core to which all was done by its system, so one is brought near to that by hand.
func TestP21_3TickThatLeavesTheSpread(t *testing.T) {
	for _, origin := range []uint64{0, 1 << 63, math.MaxUint64} {
		s, _ := New(limits.Config{Cores: 3, Tasks: 4, Tick: api.MaxTick, Slice: api.MaxSlice, Origin: origin})
		for _, k := range []int{0, 1, 1, 2} {
			s.Spawn(k, 1, api.MaxSlice)
		}
		r, _ := s.cores[1].Req(3)
		far, _ := r.Moved(pos.Pos{Time: vtime.Time(origin) - 3<<60, W: 1})
		if e := s.cores[1].Put(far); e != api.OK || s.cores[1].Run() != 2 {
			t.Fatalf("%d, and %d runs", e, s.cores[1].Run())
		}
		was := s.Clone()
		if events, e := s.Tick(api.MaxTick); len(events) != 0 || e != api.ErrSpread {
			t.Errorf("%+v, %d", events, e)
		}
		// Nor is anything done on the cores ahead of it.
		if !same(s, was) {
			t.Errorf("a refused tick has changed something")
		}
		if events, e := s.Tick(api.MaxTick - 1); len(events) != 3 || e != api.OK {
			t.Errorf("%+v, %d", events, e)
		}
		if same(s, was) {
			t.Errorf("a tick has changed nothing")
		}
	}
}

func same(a, b *System) bool {
	for k, c := range a.cores {
		d := b.cores[k]
		if !slices.Equal(c.Reqs(), d.Reqs()) || c.Now() != d.Now() || c.Carried() != d.Carried() {
			return false
		}
	}
	return slices.Equal(a.Tasks(), b.Tasks()) && slices.Equal(a.Runs(), b.Runs())
}
