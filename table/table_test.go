package table_test

import (
	"math"
	"slices"
	"testing"

	"turnstone/api"
	"turnstone/table"
)

// full has a number of its own in all of its fields.
func full(state uint8, n int) table.Task {
	return table.Task{ID: n, State: state, Core: n + 1, W: uint32(n + 2), Slice: uint64(n + 3), Lag: int64(n + 4)}
}

func in(state uint8) table.Task { return table.Task{State: state} }

func some(n int) []table.Task { return slices.Repeat([]table.Task{in(table.Runnable)}, n) }

// wrongIDs are of nobody, in whatever table.
func wrongIDs() []int {
	return []int{math.MinInt, math.MinInt + 1, -1 << 32, -33, -1, 0, 33, 64, 1 << 31, 1<<32 + 1, math.MaxInt - 1, math.MaxInt}
}

// wrongStates may not be those of a task.
func wrongStates() []uint8 { return []uint8{0, 4, 5, 127, 128, 129, 254, 255} }

func TestP20_1TheStates(t *testing.T) {
	var free, runnable, lingering, sleeping uint8 = table.Free, table.Runnable, table.Lingering, table.Sleeping
	if free != 0 || runnable != 1 || lingering != 2 || sleeping != 3 {
		t.Errorf("the states are %d, %d, %d, %d", free, runnable, lingering, sleeping)
	}
}

func TestP20_1New(t *testing.T) {
	for _, c := range []struct{ n, room int }{
		{math.MinInt, 0}, {-1 << 32, 0}, {-2, 0}, {-1, 0}, {0, 0}, {1, 1}, {2, 2}, {3, 3}, {8, 8}, {16, 16}, {31, 31}, {32, 32},
		{33, 32}, {34, 32}, {64, 32}, {1 << 32, 32}, {1<<32 + 5, 32}, {math.MaxInt - 1, 32}, {math.MaxInt, 32},
	} {
		p := newPair(c.n, c.room)
		p.check(t)
		for id := 1; id <= c.room; id++ {
			p.add(t, full(table.Runnable, 100), id, api.OK)
		}
		p.add(t, full(table.Runnable, 100), 0, api.ErrFull)
		// No two share anything.
		other := newPair(c.n, c.room)
		other.check(t)
		p.check(t)
	}
}

func TestP20_1Clone(t *testing.T) {
	for room := range 6 {
		for n := range room + 1 {
			p := newPair(room, room)
			for id := range n {
				p.add(t, full(uint8(id%3+1), id), id+1, api.OK)
			}
			c := p.clone()
			c.check(t)
			if c.t == p.t {
				t.Fatal("a clone is the table itself")
			}
			// Each goes on by itself.
			for id := range n {
				p.set(t, full(table.Sleeping, id+1), api.OK)
				c.check(t)
				c.drop(t, id+1, api.OK)
				p.check(t)
			}
			for id := range room {
				c.add(t, full(table.Lingering, 50), id+1, api.OK)
				p.check(t)
			}
			c.add(t, in(table.Runnable), 0, api.ErrFull)
			for id := range room - n {
				p.add(t, full(table.Runnable, 60), n+id+1, api.OK)
				c.check(t)
			}
			p.add(t, in(table.Runnable), 0, api.ErrFull)
			d := c.clone()
			d.check(t)
		}
	}
}

func TestP20_1Task(t *testing.T) {
	a, b := full(table.Lingering, 1), full(table.Sleeping, 2)
	p := pairOf(t, a, b)
	for _, wanted := range []table.Task{a, b} {
		if got, e := p.t.Task(wanted.ID); got != wanted || e != api.OK {
			t.Errorf("of %d: %+v, %d, wanted %+v", wanted.ID, got, e, wanted)
		}
	}
	p.drop(t, 1, api.OK)
	for _, id := range append(wrongIDs(), 1, 3) {
		if got, e := p.t.Task(id); got != (table.Task{}) || e != api.ErrTask {
			t.Errorf("of %d: %+v, %d", id, got, e)
		}
	}
}

func TestP20_1TasksByRisingIDs(t *testing.T) {
	p := pairOf(t, full(3, 9), full(1, 8), full(2, 7), full(3, 6), full(1, 5))
	p.drop(t, 4, api.OK)
	p.drop(t, 1, api.OK)
	p.add(t, full(2, 4), 1, api.OK)
	p.drop(t, 3, api.OK)
	var ids []int
	for _, x := range p.t.Tasks() {
		ids = append(ids, x.ID)
	}
	if !slices.Equal(ids, []int{1, 2, 5}) {
		t.Errorf("there are %v", ids)
	}
}

func TestP20_1States(t *testing.T) {
	p := pairOf(t, in(2), in(1), in(3), in(1), in(2), in(3), in(1))
	p.drop(t, 4, api.OK)
	for _, c := range []struct {
		states, ids []int
	}{
		{nil, nil},
		{[]int{1}, []int{2, 7}},
		{[]int{2}, []int{1, 5}},
		{[]int{3}, []int{3, 6}},
		{[]int{3, 1}, []int{2, 3, 6, 7}},
		{[]int{1, 2, 3}, []int{1, 2, 3, 5, 6, 7}},
		{[]int{2, 2, 2}, []int{1, 5}},
		// There is no such task.
		{[]int{0}, nil},
		{[]int{0, 2}, []int{1, 5}},
		{[]int{4, 255}, nil},
	} {
		var states []uint8
		for _, s := range c.states {
			states = append(states, uint8(s))
		}
		if got := p.t.States(states...); !slices.Equal(got, c.ids) {
			t.Errorf("in the states %v: %v, wanted %v", c.states, got, c.ids)
		}
	}
	p.set(t, table.Task{ID: 2, State: table.Sleeping}, api.OK)
	if got := p.t.States(table.Sleeping); !slices.Equal(got, []int{2, 3, 6}) {
		t.Errorf("asleep are %v", got)
	}
}

func TestP20_1StatesOfNobody(t *testing.T) {
	for _, n := range []int{0, 1, 32} {
		for _, states := range someStates() {
			if got := table.New(n).States(states...); len(got) != 0 {
				t.Errorf("of nobody in the states %v: %v", states, got)
			}
		}
	}
}

func TestP20_1StatesLeavesItsStatesAlone(t *testing.T) {
	p := pairOf(t, in(1), in(2), in(3))
	states := []uint8{3, 1, 3, 2, 0}
	p.t.States(states[:3]...)
	if !slices.Equal(states, []uint8{3, 1, 3, 2, 0}) {
		t.Errorf("the states, or what is beside them, are %v now", states)
	}
}

func TestP20_1AnswersAreNewMemory(t *testing.T) {
	for _, room := range []int{3, 5} {
		p := newPair(room, room)
		for id := range 3 {
			p.add(t, full(table.Runnable, id), id+1, api.OK)
		}
		tasks, others := p.t.Tasks(), p.t.Tasks()
		ids, same := p.t.States(table.Runnable), p.t.States(table.Runnable)
		clear(tasks)
		clear(ids)
		// Into the spare room too, where there is some.
		clear(append(tasks, full(table.Lingering, 7))[len(tasks):])
		clear(append(ids, 7)[len(ids):])
		p.check(t)
		if !slices.Equal(others, p.t.Tasks()) || !slices.Equal(same, []int{1, 2, 3}) {
			t.Errorf("another answer is %+v, %v now", others, same)
		}
		// What is told doesn't change as the table does.
		kept := p.t.Tasks()
		were := slices.Clone(kept)
		p.drop(t, 2, api.OK)
		p.set(t, full(table.Sleeping, 3), api.OK)
		if !slices.Equal(kept, were) {
			t.Errorf("an answer is %+v now", kept)
		}
	}
}

func TestP20_1And2Nil(t *testing.T) {
	var n *table.Table
	if n.Clone() != nil || len(n.Tasks()) != 0 || len(n.States()) != 0 || len(n.States(0, 1, 2, 3)) != 0 {
		t.Error("of nil something is told")
	}
	for _, id := range append(wrongIDs(), 1, 32) {
		if x, e := n.Task(id); x != (table.Task{}) || e != api.ErrNil {
			t.Errorf("of nil %d is %+v, %d", id, x, e)
		}
		if e := n.Drop(id); e != api.ErrNil {
			t.Errorf("of nil %d is dropped: %d", id, e)
		}
		// Whatever else is wrong.
		for _, state := range append(wrongStates(), 1, 2, 3) {
			if got, e := n.Add(table.Task{ID: id, State: state}); got != 0 || e != api.ErrNil {
				t.Errorf("to nil the state %d comes: %d, %d", state, got, e)
			}
			if e := n.Set(table.Task{ID: id, State: state}); e != api.ErrNil {
				t.Errorf("in nil %d is set to the state %d: %d", id, state, e)
			}
		}
	}
}

func TestP20_2AddKeepsAllButTheID(t *testing.T) {
	for _, x := range []table.Task{
		in(1), in(2), in(3),
		full(1, 7), full(2, 0), full(3, -9),
		{ID: math.MinInt, State: 1, Core: math.MinInt, Lag: math.MinInt64},
		{ID: math.MaxInt, State: 2, Core: math.MaxInt, W: math.MaxUint32, Slice: math.MaxUint64, Lag: math.MaxInt64},
		{ID: 2, State: 3, Core: -1, W: 1 << 20, Slice: 1 << 40, Lag: -1},
	} {
		p := newPair(3, 3)
		for id := 1; id <= 3; id++ {
			p.add(t, x, id, api.OK)
			wanted := x
			wanted.ID = id
			if got, e := p.t.Task(id); got != wanted || e != api.OK {
				t.Errorf("%+v came, and is %+v, %d", x, got, e)
			}
		}
	}
}

func TestP20_2AddTheLeastThatIsFree(t *testing.T) {
	for first := 1; first <= 5; first++ {
		for second := 1; second <= 5; second++ {
			p := pairOf(t, some(5)...)
			p.drop(t, first, api.OK)
			if second == first {
				p.drop(t, second, api.ErrTask)
				p.add(t, full(table.Sleeping, 9), first, api.OK)
			} else {
				p.drop(t, second, api.OK)
				p.add(t, full(table.Sleeping, 9), min(first, second), api.OK)
				p.add(t, full(table.Lingering, 9), max(first, second), api.OK)
			}
			p.add(t, in(table.Runnable), 0, api.ErrFull)
		}
	}
}

func TestP20_2AddErrors(t *testing.T) {
	p := newPair(2, 2)
	for id := range 3 {
		// Also where there is no room.
		for _, state := range wrongStates() {
			p.add(t, full(state, 5), 0, api.ErrArg)
			p.add(t, table.Task{ID: 1, State: state}, 0, api.ErrArg)
		}
		if id < 2 {
			p.add(t, full(table.Runnable, id), id+1, api.OK)
		}
	}
	for state := table.Runnable; state <= table.Sleeping; state++ {
		p.add(t, full(state, 5), 0, api.ErrFull)
	}
	none := newPair(0, 0)
	none.add(t, in(table.Free), 0, api.ErrArg)
	none.add(t, in(table.Runnable), 0, api.ErrFull)
}

func TestP20_2Set(t *testing.T) {
	p := pairOf(t, full(1, 4), full(2, 5), full(3, 6))
	for _, x := range []table.Task{
		full(3, 1), full(1, 1), full(2, 2), full(2, 3), full(1, 3),
		{ID: 1, State: 1},
		{ID: 2, State: 3, Core: math.MinInt, Lag: math.MinInt64},
		{ID: 3, State: 2, Core: math.MaxInt, W: math.MaxUint32, Slice: math.MaxUint64, Lag: math.MaxInt64},
	} {
		p.set(t, x, api.OK)
		if got, e := p.t.Task(x.ID); got != x || e != api.OK {
			t.Errorf("%+v was set, and is %+v, %d", x, got, e)
		}
	}
}

func TestP20_2SetErrors(t *testing.T) {
	p := pairOf(t, full(1, 4), full(2, 5), full(3, 6))
	p.drop(t, 2, api.OK)
	for _, id := range append(wrongIDs(), 2, 4) {
		for state := table.Runnable; state <= table.Sleeping; state++ {
			p.set(t, table.Task{ID: id, State: state}, api.ErrTask)
		}
		// A state that may not be is told ahead of a task that isn't there.
		for _, state := range wrongStates() {
			p.set(t, table.Task{ID: id, State: state}, api.ErrArg)
		}
	}
	for _, id := range []int{1, 3} {
		for _, state := range wrongStates() {
			p.set(t, table.Task{ID: id, State: state}, api.ErrArg)
		}
	}
	none := newPair(0, 0)
	none.set(t, table.Task{ID: 1, State: table.Runnable}, api.ErrTask)
	none.set(t, table.Task{ID: 1}, api.ErrArg)
}

func TestP20_2Drop(t *testing.T) {
	for n := range most + 1 {
		p := pairOf(t, some(n)...)
		for _, id := range append(wrongIDs(), n+1) {
			p.drop(t, id, api.ErrTask)
		}
		for id := n; id > 0; id -= 2 {
			p.drop(t, id, api.OK)
			p.drop(t, id, api.ErrTask)
		}
		for id := n - 1; id > 0; id -= 2 {
			p.drop(t, id, api.OK)
		}
		if got := p.t.Tasks(); len(got) != 0 {
			t.Errorf("all were dropped, and there are %+v", got)
		}
	}
}

func TestP20_2WhatIsHandedInIsAValue(t *testing.T) {
	p := pairOf(t, in(1))
	x := full(table.Runnable, 1)
	p.set(t, x, api.OK)
	x.State, x.W = table.Sleeping, 99
	p.check(t)
	y, _ := p.t.Task(1)
	y.Lag = 99
	p.check(t)
}

func TestP20_Example(t *testing.T) {
	p := pairOf(t, some(3)...)
	p.drop(t, 2, api.OK)
	p.add(t, in(table.Runnable), 2, api.OK)
}

// deep does all that may be done with a table of little room, as far as some steps go.
func deep(t *testing.T, p *pair, steps int) {
	t.Helper()
	if steps == 0 {
		return
	}
	for _, state := range []uint8{0, 1, 3} {
		c := p.clone()
		x := table.Task{ID: 2, State: state, Lag: int64(steps)}
		id, e := c.m.clone().add(x)
		c.add(t, x, id, e)
		deep(t, c, steps-1)
	}
	for id := range p.m.room + 2 {
		c := p.clone()
		x := table.Task{ID: id, State: 2, Core: steps}
		c.set(t, x, c.m.clone().set(x))
		deep(t, c, steps-1)
		d := p.clone()
		d.drop(t, id, d.m.clone().drop(id))
		deep(t, d, steps-1)
	}
	p.check(t)
}

func TestP20_3InAllOrders(t *testing.T) {
	deep(t, newPair(0, 0), 3)
	deep(t, newPair(1, 1), 4)
	deep(t, newPair(2, 2), 4)
	deep(t, newPair(3, 3), 3)
}

func TestP20_3FromItsAddToItsDrop(t *testing.T) {
	for _, room := range []int{1, 2, 3, 7, 31, 32} {
		next := chance(room)
		p := newPair(room, room)
		there := map[int]bool{}
		for range 1500 {
			id := next(room+2) - 1
			switch next(5) {
			case 0, 1, 2:
				got, e := p.t.Add(full(uint8(next(3)+1), next(99)))
				if e == api.OK && there[got] || (e == api.OK) != (len(there) < room) {
					t.Fatalf("with room for %d, of which %d are there, %d comes: %d", room, len(there), got, e)
				}
				if e == api.OK {
					there[got] = true
				}
			case 3:
				if e := p.t.Drop(id); (e == api.OK) != there[id] {
					t.Fatalf("%d is dropped: %d", id, e)
				}
				delete(there, id)
			default:
				if e := p.t.Set(full(uint8(next(3)+1), id)); (e == api.OK) != there[id] {
					t.Fatalf("%d is set: %d", id, e)
				}
			}
			onceEach(t, p.t, there)
		}
	}
}

// onceEach: are just these there, and each of them once?
func onceEach(t *testing.T, x *table.Table, there map[int]bool) {
	t.Helper()
	all := x.Tasks()
	if len(all) != len(there) {
		t.Fatalf("there are %+v, wanted %v", all, there)
	}
	for i, a := range all {
		if !there[a.ID] || i > 0 && all[i-1].ID >= a.ID {
			t.Fatalf("there are %+v, wanted %v", all, there)
		}
	}
}

func TestP20_3ALongWay(t *testing.T) {
	for _, room := range []int{1, 5, 32} {
		next := chance(room + 7)
		p := newPair(room, room)
		for range 2000 {
			x := full(uint8(next(5)), next(room+3)-1)
			switch next(4) {
			case 0, 1:
				id, e := p.m.clone().add(x)
				p.add(t, x, id, e)
			case 2:
				p.drop(t, x.ID, p.m.clone().drop(x.ID))
			default:
				p.set(t, x, p.m.clone().set(x))
			}
		}
	}
}
