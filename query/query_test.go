package query_test

import (
	"math"
	"slices"
	"testing"

	"turnstone/account"
	"turnstone/api"
	"turnstone/limits"
	"turnstone/query"
	"turnstone/table"
	"turnstone/wide"
)

// wrongNumbers are of no task and of no core, in whatever book.
func wrongNumbers() []int {
	return []int{math.MinInt, math.MinInt + 1, -1 << 32, -33, -1, 33, 64, 1 << 31, 1<<32 + 1, math.MaxInt - 1, math.MaxInt}
}

// lingers: 1 lingers on the core 0, where 2 runs; 3 is alone on the core 1.
func lingers() []step {
	return []step{spawns(0, 1, 5), spawns(0, 1, 9), spawns(1, 3, 4), ticks(4), sleeps(1)}
}

// goes: behind these 1 went at last, half a nanosecond ahead.
func goes() []step { return append(lingers(), ticks(5)) }

func isRow(t *testing.T, b *account.Book, wanted query.Row) {
	t.Helper()
	if got, e := query.Task(b, wanted.Task.ID); got != wanted || e != api.OK {
		t.Errorf("of %d there is told %+v, %d, wanted %+v", wanted.Task.ID, got, e, wanted)
	}
}

func isCore(t *testing.T, b *account.Book, wanted query.Core) {
	t.Helper()
	if got, e := query.Of(b, wanted.Number); got != wanted || e != api.OK {
		t.Errorf("of the core %d there is told %+v, %d, wanted %+v", wanted.Number, got, e, wanted)
	}
}

func TestP23_1Task(t *testing.T) {
	for _, origin := range origins() {
		b := bookOf(t, small(origin), lingers()...)
		first := query.Row{Task: table.Task{ID: 1, State: table.Lingering, W: 1, Slice: 5}, Lag: wide.Of(-2 << 20), Left: 1, Entry: account.Entry{Served: 4, Parts: 1}}
		second := query.Row{Task: table.Task{ID: 2, State: table.Runnable, W: 1, Slice: 9}, Lag: wide.Of(2 << 20), Left: 9, Runs: true}
		third := query.Row{Task: table.Task{ID: 3, State: table.Runnable, Core: 1, W: 3, Slice: 4}, Left: 4, Runs: true, Entry: account.Entry{Served: 4, Requests: 1, Parts: 1}}
		isRow(t, b, first)
		isRow(t, b, second)
		isRow(t, b, third)
		check(t, b)

		// Of one that sleeps the lag is what is kept, and nothing is left.
		do(t, b, ticks(5))
		first.Task.State, first.Task.Lag = table.Sleeping, 1<<19
		first.Lag, first.Left, first.Entry.Gone = wide.Of(1<<19), 0, 1
		second.Lag, second.Left, second.Entry = wide.Of(0), 4, account.Entry{Served: 5, Parts: 1}
		isRow(t, b, first)
		isRow(t, b, second)
		check(t, b)

		// What is left of a request doesn't hang on the slice of the next one.
		do(t, b, slicesTo(2, 7), weighs(2, 6))
		second.Task.Slice, second.Task.W = 7, 6
		isRow(t, b, second)

		// It comes in where it is owed what was kept, which the table tells still.
		do(t, b, wakes(1))
		first.Task.State, first.Left = table.Runnable, 5
		if got, _ := query.Task(b, 1); got.Task != first.Task || got.Left != 5 || got.Lag.Sign() <= 0 {
			t.Errorf("behind its waking there is told %+v", got)
		}
		check(t, b)
	}
}

func TestP23_1TaskThatWaits(t *testing.T) {
	b := bookOf(t, small(0), spawns(1, 1, 5), spawns(1, 2, 5), spawns(0, 1, 5), spawns(1, 1, 20))
	for id, runs := range map[int]bool{1: false, 2: true, 3: true, 4: false} {
		if got, e := query.Task(b, id); got.Runs != runs || e != api.OK {
			t.Errorf("of %d there is told %+v, %d", id, got, e)
		}
	}
	// Where it migrates it is the core where it is then that counts.
	do(t, b, migrates(2, 0), ticks(7))
	check(t, b)
	do(t, b, sleeps(3), migrates(3, 1))
	isRow(t, b, rowOf(b, table.Task{ID: 3, State: table.Sleeping, Core: 1, W: 1, Slice: 5, Lag: lagOf(t, b, 3)}))
}

func lagOf(t *testing.T, b *account.Book, id int) int64 {
	t.Helper()
	lag, e := b.Lag(id)
	n, ok := lag.Small()
	if e != api.OK || !ok {
		t.Fatalf("the lag of %d is %v, %d", id, lag, e)
	}
	return n
}

func TestP23_1TaskAnew(t *testing.T) {
	b := bookOf(t, small(0), spawns(0, 1, 5), ticks(7), exits(1))
	if got, e := query.Task(b, 1); got != (query.Row{}) || e != api.ErrTask {
		t.Errorf("of who exited there is told %+v, %d", got, e)
	}
	// Its entry begins anew, too.
	do(t, b, spawns(1, 2, 3))
	isRow(t, b, query.Row{Task: table.Task{ID: 1, State: table.Runnable, Core: 1, W: 2, Slice: 3}, Left: 3, Runs: true})
}

func TestP23_1TaskErrors(t *testing.T) {
	for _, c := range []limits.Config{small(0), {Cores: mostCores, Tasks: mostTasks, Tick: 9, Slice: 9}} {
		b := bookOf(t, c, spawns(0, 1, 5), spawns(0, 1, 5), ticks(3), exits(1))
		for _, id := range append(wrongNumbers(), 0, 1, 3, 5, 6, mostTasks) {
			if got, e := query.Task(b, id); got != (query.Row{}) || e != api.ErrTask {
				t.Errorf("of %d there is told %+v, %d", id, got, e)
			}
		}
	}
	for _, id := range append(wrongNumbers(), 0, 1, 2) {
		if got, e := query.Task(nil, id); got != (query.Row{}) || e != api.ErrNil {
			t.Errorf("of nil and %d there is told %+v, %d", id, got, e)
		}
	}
}

func idsOf(rows []query.Row) []int {
	var ids []int
	for _, r := range rows {
		ids = append(ids, r.Task.ID)
	}
	return ids
}

func TestP23_1Tasks(t *testing.T) {
	b := bookOf(t, small(0), goes()...)
	do(t, b, spawns(0, 1, 20), spawns(1, 1, 20), ticks(5), sleeps(2))
	for _, c := range []struct {
		states, ids []int
	}{
		{nil, []int{1, 2, 3, 4, 5}},
		{[]int{1}, []int{3, 4, 5}},
		{[]int{2}, []int{2}},
		{[]int{3}, []int{1}},
		{[]int{3, 2}, []int{1, 2}},
		{[]int{3, 1, 3}, []int{1, 3, 4, 5}},
		{[]int{2, 1, 3}, []int{1, 2, 3, 4, 5}},
		// No task is Free, or in a state that is none.
		{[]int{0}, nil},
		{[]int{4, 255}, nil},
		{[]int{0, 2, 17}, []int{2}},
	} {
		var states []uint8
		for _, s := range c.states {
			states = append(states, uint8(s))
		}
		if got := idsOf(query.Tasks(b, states...)); !slices.Equal(got, c.ids) {
			t.Errorf("of the states %v there are told %v, wanted %v", c.states, got, c.ids)
		}
	}
	if got := idsOf(query.Tasks(b, []uint8{}...)); !slices.Equal(got, []int{1, 2, 3, 4, 5}) {
		t.Errorf("of no states there are told %v", got)
	}
	check(t, b)
	do(t, b, exits(1), exits(4))
	if got := idsOf(query.Tasks(b)); !slices.Equal(got, []int{2, 3, 5}) {
		t.Errorf("of all there are told %v", got)
	}
}

func TestP23_1TasksLeavesItsStatesAlone(t *testing.T) {
	b := bookOf(t, small(0), goes()...)
	states := []uint8{3, 1, 3, 2, 0}
	query.Tasks(b, states[:3]...)
	query.Tasks(b, states[:0]...)
	if !slices.Equal(states, []uint8{3, 1, 3, 2, 0}) {
		t.Errorf("the states, or what is beside them, are %v now", states)
	}
}

func TestP23_1Of(t *testing.T) {
	for _, origin := range origins() {
		b := bookOf(t, small(origin), lingers()...)
		isCore(t, b, query.Core{Number: 0, Run: 2, Runnable: 1, Lingering: 1, Weight: 2, Carried: wide.Of(4), Count: account.Count{Busy: 4, Switches: 2}})
		isCore(t, b, query.Core{Number: 1, Run: 3, Runnable: 1, Weight: 3, Carried: wide.Of(2), Count: account.Count{Busy: 4, Switches: 1}})
		// Who goes isn't there any more, and its lag is carried.
		do(t, b, ticks(5))
		isCore(t, b, query.Core{Number: 0, Run: 2, Runnable: 1, Weight: 1, Carried: wide.Of(4 + 1<<19 + 2), Count: account.Count{Busy: 9, Switches: 2}})
		do(t, b, exits(2), ticks(3), migrates(3, 0), weighs(3, mostW), spawns(0, 7, 5), ticks(1))
		check(t, b)
		if got, _ := query.Of(b, 0); got.Runnable != 2 || got.Weight != mostW+7 || got.Lingering != 0 || got.Count != (account.Count{Busy: 10, Idle: 3, Switches: 5}) {
			t.Errorf("there is told %+v", got)
		}
	}
}

func TestP23_1OfErrors(t *testing.T) {
	for cores := 1; cores <= mostCores; cores++ {
		b := bookOf(t, limits.Config{Cores: cores, Tasks: 1, Tick: 9, Slice: 9}, spawns(cores-1, 1, 5), ticks(3))
		for k := range cores {
			if got, e := query.Of(b, k); got.Number != k || e != api.OK {
				t.Errorf("of the core %d of %d there is told %+v, %d", k, cores, got, e)
			}
		}
		for _, k := range append(wrongNumbers(), cores, cores+1, mostCores) {
			if got, e := query.Of(b, k); got != (query.Core{}) || e != api.ErrCore {
				t.Errorf("of the core %d of %d there is told %+v, %d", k, cores, got, e)
			}
		}
	}
	for _, k := range append(wrongNumbers(), 0, 1) {
		if got, e := query.Of(nil, k); got != (query.Core{}) || e != api.ErrNil {
			t.Errorf("of nil and %d there is told %+v, %d", k, got, e)
		}
	}
}

func TestP23_1Cores(t *testing.T) {
	for cores := 1; cores <= mostCores; cores++ {
		b := bookOf(t, limits.Config{Cores: cores, Tasks: mostCores, Tick: 9, Slice: 9})
		for k := range cores {
			do(t, b, spawns(k, uint64(k+1), 5), ticks(uint64(k+1)))
		}
		l := query.Cores(b)
		if len(l) != cores {
			t.Fatalf("of %d cores there are told %+v", cores, l)
		}
		for k, c := range l {
			if c.Number != k || c.Run != k+1 || c.Weight != uint64(k+1) || c.Runnable != 1 {
				t.Errorf("of the core %d there is told %+v", k, c)
			}
		}
		check(t, b)
	}
}

func TestP23_1Nil(t *testing.T) {
	if got := query.Tasks(nil); len(got) != 0 {
		t.Errorf("of nil there are told %+v", got)
	}
	for _, states := range someStates() {
		if got := query.Tasks(nil, states...); len(got) != 0 {
			t.Errorf("of nil and %v there are told %+v", states, got)
		}
	}
	if got := query.Cores(nil); len(got) != 0 {
		t.Errorf("of nil there are told the cores %+v", got)
	}
}

func TestP23_1Nobody(t *testing.T) {
	for _, origin := range origins() {
		b := bookOf(t, limits.Config{Cores: 3, Tasks: mostTasks, Tick: mostTick, Slice: mostSlice, Origin: origin})
		check(t, b)
		if got := query.Tasks(b); len(got) != 0 {
			t.Errorf("of nobody there is told %+v", got)
		}
		for k := range 3 {
			isCore(t, b, query.Core{Number: k})
		}
		do(t, b, ticks(mostTick))
		isCore(t, b, query.Core{Number: 1, Count: account.Count{Idle: mostTick}})
	}
}

func TestP23_1TheGreatest(t *testing.T) {
	for _, origin := range origins() {
		b := bookOf(t, limits.Config{Cores: mostCores, Tasks: mostTasks, Tick: mostTick, Slice: mostSlice, Origin: origin})
		for range mostTasks {
			do(t, b, spawns(mostCores-1, mostW, mostSlice))
		}
		isCore(t, b, query.Core{Number: mostCores - 1, Run: 1, Runnable: mostTasks, Weight: mostW * mostTasks, Carried: wide.Of(2 * mostTasks), Count: account.Count{Switches: 1}})
		isRow(t, b, query.Row{Task: table.Task{ID: mostTasks, State: table.Runnable, Core: mostCores - 1, W: mostW, Slice: mostSlice}, Left: mostSlice})
		do(t, b, ticks(mostTick), ticks(mostTick), sleeps(1), ticks(mostTick-1))
		check(t, b)
	}
}

// Whatever is asked, the book goes on as one that is asked nothing.
func TestP23_1AskingChangesNothing(t *testing.T) {
	for seed := range 10 {
		next := chance(200 + seed)
		c := limits.Config{Cores: 1 + next(3), Tasks: 4, Tick: uint64(1 + next(90)), Slice: uint64(1 + next(60))}
		asked, left := bookOf(t, c), bookOf(t, c)
		for range 60 {
			x := stepOf(next, c)
			if e, f := x(asked), x(left); e != f {
				t.Fatalf("%d, wanted %d", e, f)
			}
			for n := -1; n <= 9; n++ {
				query.Task(asked, n)
				query.Of(asked, n)
			}
			query.Lines(query.Tasks(asked)...)
			query.CoreLines(query.Cores(asked)...)
		}
		if got, wanted := query.Tasks(asked), query.Tasks(left); !slices.Equal(got, wanted) {
			t.Errorf("there is told %+v, wanted %+v", got, wanted)
		}
		if got, wanted := query.Cores(asked), query.Cores(left); !slices.Equal(got, wanted) {
			t.Errorf("there is told %+v, wanted %+v", got, wanted)
		}
	}
}

func TestP23_1AnswersAreNewMemory(t *testing.T) {
	b := bookOf(t, small(0), goes()...)
	rows, cores := query.Tasks(b), query.Cores(b)
	others, otherCores := query.Tasks(b), query.Cores(b)
	clear(rows)
	clear(cores)
	clear(append(rows, query.Row{Left: 7})[len(rows):])
	clear(append(cores, query.Core{Run: 7})[len(cores):])
	check(t, b)
	if !slices.Equal(others, query.Tasks(b)) || !slices.Equal(otherCores, query.Cores(b)) {
		t.Errorf("other answers are %+v, %+v now", others, otherCores)
	}
	// What is told doesn't change as the book goes on.
	were, wereCores := slices.Clone(others), slices.Clone(otherCores)
	do(t, b, ticks(9), exits(2))
	if !slices.Equal(others, were) || !slices.Equal(otherCores, wereCores) {
		t.Errorf("answers are %+v, %+v now", others, otherCores)
	}
}

func TestP23_3Turns(t *testing.T) {
	told := map[uint8]int{}
	below := 0
	for seed := range 30 {
		next := chance(seed)
		c := limits.Config{Cores: 1 + next(3), Tasks: []int{3, 8, mostTasks}[next(3)], Tick: uint64(1 + next(200)), Slice: uint64(1 + next(60)), Origin: origins()[seed%4]}
		b := bookOf(t, c)
		for range 120 {
			stepOf(next, c)(b)
			check(t, b)
			for _, r := range query.Tasks(b) {
				told[r.Task.State]++
				if r.Lag.Sign() < 0 {
					below++
				}
			}
		}
	}
	for state := table.Runnable; state <= table.Sleeping; state++ {
		if told[state] < 300 {
			t.Errorf("of the state %d there were %d", state, told[state])
		}
	}
	if below < 500 {
		t.Errorf("%d lags were below 0", below)
	}
}

// All that is told hangs on no Origin.
func TestP23_3NoOrigin(t *testing.T) {
	for seed := range 8 {
		var first []string
		for i, origin := range origins() {
			next := chance(300 + seed)
			c := limits.Config{Cores: 2, Tasks: 6, Tick: 50, Slice: 20, Origin: origin}
			b := bookOf(t, c)
			var lines []string
			for range 80 {
				stepOf(next, c)(b)
				lines = append(lines, query.Lines(query.Tasks(b)...)...)
				lines = append(lines, query.CoreLines(query.Cores(b)...)...)
			}
			if i == 0 {
				first = lines
			}
			if !slices.Equal(lines, first) {
				t.Fatalf("from %d there is told another thing than from 0", origin)
			}
		}
	}
}
