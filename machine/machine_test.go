package machine_test

import (
	"fmt"
	"math"
	"slices"
	"strings"
	"testing"

	"turnstone/api"
	"turnstone/limits"
	"turnstone/machine"
	"turnstone/script"
	"turnstone/table"
)

func TestP25_1New(t *testing.T) {
	for _, origin := range origins() {
		for _, c := range []limits.Config{small(origin), {Cores: 1, Tasks: 1, Tick: 1, Slice: 1}, {Cores: mostCores, Tasks: mostTasks, Tick: mostTick, Slice: mostSlice, Origin: origin}} {
			p := newPair(t, c)
			p.check(t)
			// No two share anything.
			other, _ := machine.New(c)
			other.Do(one(spawn, "a", 0, 1, 1))
			if p.m.ID("a") != 0 || other.ID("a") != 1 {
				t.Errorf("one tells of a %d, the other one %d", p.m.ID("a"), other.ID("a"))
			}
			p.check(t)
		}
	}
	for _, c := range []limits.Config{
		{},
		{Cores: 0, Tasks: 1, Tick: 1, Slice: 1},
		{Cores: mostCores + 1, Tasks: 1, Tick: 1, Slice: 1},
		{Cores: 1, Tasks: mostTasks + 1, Tick: 1, Slice: 1},
		{Cores: 1, Tasks: 1, Tick: mostTick + 1, Slice: 1},
		{Cores: 1, Tasks: 1, Tick: 1, Slice: 0},
		{Cores: math.MinInt, Tasks: math.MaxInt, Tick: math.MaxUint64, Slice: math.MaxUint64},
	} {
		if m, e := machine.New(c); m != nil || e != api.ErrRange {
			t.Errorf("of %+v: %v, %d", c, m, e)
		}
	}
}

func TestP25_1IDOfNumbers(t *testing.T) {
	m, _ := machine.New(small(0))
	for _, c := range []struct {
		name string
		id   int
	}{
		{"#0", 0}, {"#1", 1}, {"#9", 9}, {"#10", 10}, {"#32", 32}, {"#33", 33}, {"#1234567", 1234567},
		// Whoever is there, and however many noughts are ahead.
		{"#007", 7}, {"#00", 0}, {"#" + strings.Repeat("0", 5000) + "31", 31},
		{"#1073741823", mostNumber - 1}, {"#1073741824", mostNumber}, {"#01073741824", mostNumber},
		{"#1073741825", 0}, {"#2147483648", 0}, {"#4294967297", 0}, {"#18446744073709551615", 0}, {"#18446744073709551617", 0},
		{"#" + strings.Repeat("9", 5000), 0},
		{"#", 0}, {"##", 0}, {"##1", 0}, {"#1#", 0}, {"#-1", 0}, {"#+1", 0}, {"#1_0", 0}, {"#0x1", 0}, {"#0b1", 0}, {"#1e1", 0}, {"#1.0", 0},
		{"# 1", 0}, {"#1 ", 0}, {"#\t1", 0}, {"#1\n", 0}, {"#1\x00", 0}, {"#a", 0}, {"#1a", 0}, {"#a1", 0}, {"#\uff11", 0}, {"#\u0661", 0}, {"#\xff", 0},
	} {
		if got := m.ID(c.name); got != c.id {
			t.Errorf("%.60q is about %d, wanted %d", c.name, got, c.id)
		}
	}
}

func TestP25_1IDOfLabels(t *testing.T) {
	p := newPair(t, small(0))
	for _, name := range []string{"", "a", "1", "0", " ", " #1", "a#1", "\x00"} {
		if got := p.m.ID(name); got != 0 {
			t.Errorf("%q is about %d", name, got)
		}
	}
	p.says(t, one(spawn, "a", 0, 1, 5), "ok 1")
	p.says(t, one(spawn, "b", 1, 1, 5), "ok 2")
	p.says(t, one(spawn, "1", 1, 1, 5), "ok 3")
	p.wants(t, "a", 1)
	p.wants(t, "b", 2)
	p.wants(t, "1", 3)
	// Bytes that are otherwise are another label.
	for _, name := range []string{"A", "a ", " a", "aa", "", "b\x00", "01", "2"} {
		p.wants(t, name, 0)
	}
	// What was told last counts, and counts still once that task isn't there any more.
	p.says(t, one(spawn, "a", 0, 1, 5), "ok 4")
	p.wants(t, "a", 4)
	p.says(t, one(exit, "a"), "ok")
	p.wants(t, "a", 4)
	p.says(t, one(exit, "a"), "error 4")
	p.says(t, one(spawn, "c", 0, 1, 5), "ok 4")
	p.wants(t, "a", 4)
	p.wants(t, "c", 4)
	// It is about who has the ID now.
	p.says(t, one(sleep, "a"), "ok")
	p.says(t, one(task, "c"), "4 sleeping 0 1 5 0 0 waits 0 0 0 0")
	// What is refused tells no ID.
	p.says(t, one(spawn, "b", 2, 1, 5), "error 5")
	p.says(t, one(spawn, "d", 0, 0, 5), "error 3")
	p.wants(t, "b", 2)
	p.wants(t, "d", 0)
}

func (p *pair) wants(t *testing.T, name string, id int) {
	t.Helper()
	if got := p.m.ID(name); got != id {
		t.Errorf("%q is about %d, wanted %d", name, got, id)
	}
}

func TestP25_1LabelsThatAreNoNames(t *testing.T) {
	// A label may be of bytes that as a name are a number; and one that is handed in may be any text.
	p := newPair(t, small(0))
	p.says(t, one(spawn, "#2", 0, 1, 5), "ok 1")
	p.wants(t, "#2", 2)
	p.says(t, one(exit, "#2"), "error 4")
	p.says(t, one(spawn, "#", 0, 1, 5), "ok 2")
	p.wants(t, "#", 0)
	p.says(t, one(spawn, "", 0, 1, 5), "ok 3")
	p.wants(t, "", 3)
	p.says(t, one(sleep, ""), "ok")
	long := strings.Repeat("ab \n", 5000)
	p.says(t, one(spawn, long, 0, 1, 5), "ok 4")
	p.wants(t, long, 4)
	p.wants(t, long[1:], 0)
}

func TestP25_1Nil(t *testing.T) {
	var m *machine.Machine
	for _, name := range names() {
		if id := m.ID(name); id != 0 {
			t.Errorf("of nil %q is about %d", name, id)
		}
	}
	for op := range 256 {
		for _, c := range []script.Command{{Op: uint8(op)}, {Op: uint8(op), Label: "a", On: "#1", N: []uint64{0, 1, 1}, States: []uint8{1}}} {
			if l := m.Do(c); len(l) != 0 {
				t.Errorf("of nil and %+v there is answered %q", c, l)
			}
		}
	}
}

func TestP25_2EachOp(t *testing.T) {
	for _, origin := range origins() {
		p := newPair(t, small(origin))
		p.says(t, one(runs, ""), "runs 0 0")
		p.says(t, askTasks())
		p.says(t, one(cores, ""), "core 0 0 0 0 0 0 0 0 0", "core 1 0 0 0 0 0 0 0 0")
		p.says(t, one(spawn, "a", 0, 1, 5), "ok 1")
		p.says(t, one(spawn, "b", 0, 1, 9), "ok 2")
		p.says(t, one(spawn, "c", 1, 3, 4), "ok 3")
		p.says(t, one(runs, ""), "runs 1 3")
		p.says(t, one(tick, "", 4), "ok")
		p.says(t, one(sleep, "a"), "ok")
		p.says(t, one(runs, ""), "runs 2 3")
		p.says(t, one(task, "a"), "1 lingering 0 1 5 -2097152 1 waits 4 0 1 0")
		p.says(t, one(task, "#3"), "3 runnable 1 3 4 0 4 runs 4 1 1 0")
		p.says(t, one(cores, ""), "core 0 2 1 1 2 4 4 0 2", "core 1 3 1 0 3 2 4 0 1")
		p.says(t, one(tick, "", 5), "ok")
		p.says(t, askTasks(), "1 sleeping 0 1 5 524288 0 waits 4 0 1 1", "2 runnable 0 1 9 0 4 runs 5 0 1 0", "3 runnable 1 3 4 0 3 runs 9 2 3 0")
		p.says(t, askTasks(table.Sleeping), "1 sleeping 0 1 5 524288 0 waits 4 0 1 1")
		p.says(t, one(slice, "b", 7), "ok")
		p.says(t, one(weight, "b", 6), "ok")
		p.says(t, one(task, "b"), "2 runnable 0 6 7 0 4 runs 5 0 1 0")
		p.says(t, one(migrate, "b", 1), "ok")
		p.says(t, one(runs, ""), "runs 0 3")
		p.says(t, one(wake, "a"), "ok")
		p.says(t, one(task, "a"), "1 runnable 0 1 5 0 5 runs 4 0 1 1")
		p.says(t, one(exit, "a"), "ok")
		p.says(t, one(exit, "c"), "ok")
		p.says(t, one(runs, ""), "runs 0 2")
		p.says(t, askTasks(table.Runnable), "2 runnable 1 6 7 0 7 runs 5 0 1 0")
		p.says(t, one(spawn, "d", 1, 6, 20), "ok 1")
	}
}

func TestP25_2Errors(t *testing.T) {
	p := newPair(t, small(0))
	for i := range 3 {
		p.says(t, one(spawn, fmt.Sprint(i), 0, 1, 5), fmt.Sprint("ok ", i+1))
	}
	p.says(t, one(tick, "", 4), "ok")
	p.says(t, one(sleep, "#1"), "ok")
	for _, c := range []struct {
		what script.Command
		e    api.Errno
	}{
		{one(spawn, "x", 2, 0, 0), api.ErrCore}, {one(spawn, "x", 0, 0, 5), api.ErrRange}, {one(spawn, "x", 0, mostW+1, 5), api.ErrRange}, {one(spawn, "x", 0, 1, 21), api.ErrRange},
		{one(exit, "#4"), api.ErrTask}, {one(exit, "x"), api.ErrTask}, {one(exit, "#0"), api.ErrTask}, {one(exit, "#1073741825"), api.ErrTask},
		{one(sleep, "#4"), api.ErrTask}, {one(sleep, "#1"), api.ErrState},
		{one(wake, "y"), api.ErrTask}, {one(wake, "1"), api.ErrState},
		{one(weight, "y", 0), api.ErrTask}, {one(weight, "#1", 0), api.ErrRange}, {one(weight, "#2", mostW+1), api.ErrRange}, {one(weight, "#2", math.MaxUint64), api.ErrRange},
		{one(slice, "y", 0), api.ErrTask}, {one(slice, "#1", 0), api.ErrRange}, {one(slice, "#2", 21), api.ErrRange}, {one(slice, "#2", math.MaxUint64), api.ErrRange},
		{one(migrate, "y", 2), api.ErrTask}, {one(migrate, "#1", 2), api.ErrCore},
		{one(tick, "", 0), api.ErrRange}, {one(tick, "", 10), api.ErrRange}, {one(tick, "", math.MaxUint64), api.ErrRange},
		{one(task, "y"), api.ErrTask}, {one(task, "#4"), api.ErrTask}, {one(task, "#"), api.ErrTask},
	} {
		p.says(t, c.what, fmt.Sprint("error ", int(c.e)))
	}
	p.says(t, one(spawn, "x", 0, 1, 5), "ok 4")
	p.says(t, one(spawn, "x", 0, 1, 5), "ok 5")
	p.says(t, one(spawn, "y", 0, 1, 5), "error 7")
	p.wants(t, "x", 5)
	p.wants(t, "y", 0)
}

func TestP25_2OpsAboveEleven(t *testing.T) {
	p := newPair(t, small(0))
	p.says(t, one(spawn, "a", 0, 1, 5), "ok 1")
	for op := ops; op < 256; op++ {
		p.says(t, script.Command{Op: uint8(op)}, "error 2")
		p.says(t, script.Command{Op: uint8(op), Label: "b", On: "a", N: []uint64{0, 1, 5}, States: []uint8{1}}, "error 2")
	}
	p.wants(t, "b", 0)
}

func TestP25_2NumbersThatArentThere(t *testing.T) {
	p := newPair(t, small(0))
	p.says(t, one(spawn, "a", 1, 1, 5), "ok 1")
	p.says(t, one(spawn, "b"), "error 3")
	p.says(t, one(spawn, "b", 0), "error 3")
	p.says(t, one(spawn, "b", 0, 1), "error 3")
	p.says(t, one(spawn, "b", 2, 1), "error 5")
	p.says(t, one(weight, "a"), "error 3")
	p.says(t, one(slice, "a"), "error 3")
	p.says(t, one(tick, ""), "error 3")
	p.says(t, one(migrate, "a"), "ok")
	p.says(t, one(task, "a"), "1 runnable 0 1 5 0 5 runs 0 0 0 0")
	p.says(t, script.Command{Op: exit}, "error 4")
	// Of more than there should be the first ones count.
	p.says(t, one(spawn, "b", 1, 2, 3, 4, 5), "ok 2")
	p.says(t, one(weight, "b", 7, 8), "ok")
	p.says(t, one(slice, "b", 9, 8), "ok")
	p.says(t, one(tick, "", 2, 8), "ok")
	p.says(t, one(task, "b", 1), "2 runnable 1 7 9 0 1 runs 2 0 1 0")
	p.says(t, one(migrate, "b", 0, 1), "ok")
	p.says(t, script.Command{Op: runs, N: []uint64{1}, On: "a", States: []uint8{3}}, "runs 2 0")
	// Of room behind nothing is read, and nothing is written there.
	n := []uint64{1, 1, 5, 6}
	p.says(t, one(spawn, "c", n[:2]...), "error 3")
	p.says(t, one(weight, "b", n[:0]...), "error 3")
	if !slices.Equal(n, []uint64{1, 1, 5, 6}) {
		t.Errorf("the numbers are %v now", n)
	}
}

func TestP25_2CoresOfGreatNumbers(t *testing.T) {
	for _, cores := range []int{1, mostCores} {
		p := newPair(t, limits.Config{Cores: cores, Tasks: 3, Tick: 9, Slice: 9})
		p.says(t, one(spawn, "a", uint64(cores-1), 1, 5), "ok 1")
		for _, k := range []uint64{uint64(cores), 1 << 30, 1<<30 + 1, 1 << 31, 1 << 32, 1<<32 + 1, 1 << 63, math.MaxUint64 - 1, math.MaxUint64} {
			p.says(t, one(spawn, "b", k, 1, 5), "error 5")
			p.says(t, one(migrate, "a", k), "error 5")
			p.says(t, one(migrate, "b", k), "error 4")
		}
		p.wants(t, "b", 0)
	}
}

func TestP25_2States(t *testing.T) {
	p := newPair(t, small(0))
	for i := range 4 {
		p.says(t, one(spawn, "a", 0, 1, 5), fmt.Sprint("ok ", i+1))
	}
	p.says(t, one(tick, "", 4), "ok")
	p.says(t, one(sleep, "#1"), "ok")
	p.says(t, one(sleep, "#3"), "ok")
	p.says(t, askTasks(table.Lingering), "1 lingering 0 1 5 -2796203 1 waits 4 0 1 0")
	p.says(t, askTasks(table.Sleeping), "3 sleeping 0 1 5 1048576 0 waits 0 0 0 0")
	two, four := "2 runnable 0 1 5 1398101 5 runs 0 0 0 0", "4 runnable 0 1 5 1398101 5 waits 0 0 0 0"
	p.says(t, askTasks(table.Runnable), two, four)
	p.says(t, askTasks(table.Sleeping, table.Runnable, table.Sleeping), two, "3 sleeping 0 1 5 1048576 0 waits 0 0 0 0", four)
	for _, states := range [][]uint8{{0}, {4}, {255, 0}} {
		p.says(t, askTasks(states...))
	}
	for _, states := range [][]uint8{nil, {}, {1, 2}, {3, 2, 1}, {0, 1, 255}} {
		p.do(t, askTasks(states...))
	}
}

func TestP25_2AnswersAreNewMemory(t *testing.T) {
	p := newPair(t, small(0))
	for _, c := range []script.Command{one(spawn, "a", 0, 1, 5), one(runs, ""), one(task, "a"), askTasks(), one(cores, ""), one(tick, "", 0), one(slice, "a", 3), {Op: 200}} {
		clear(p.do(t, c))
		l := p.do(t, c)
		was := slices.Clone(l)
		clear(p.do(t, c))
		if !slices.Equal(l, was) {
			t.Errorf("of %+v an answer is %q now, and was %q", c, l, was)
		}
	}
}

func TestP25_2PromotedCalls(t *testing.T) {
	// What a machine doesn't answer itself its book does, and its labels stay.
	p := newPair(t, small(0))
	p.says(t, one(spawn, "a", 0, 1, 5), "ok 1")
	if id, e := p.m.Spawn(1, 1, 5); id != 2 || e != api.OK {
		t.Errorf("there came %d, %d", id, e)
	}
	p.model.b.Spawn(1, 1, 5)
	p.check(t)
	p.says(t, one(runs, ""), "runs 1 2")
	if e := p.m.Tick(3); e != api.OK {
		t.Errorf("the tick tells %d", e)
	}
	p.model.b.Tick(3)
	p.check(t)
	p.says(t, one(task, "#2"), "2 runnable 1 1 5 0 2 runs 3 0 1 0")
	p.wants(t, "a", 1)
}

func TestP25_2Commands(t *testing.T) {
	ok, refused := map[uint8]int{}, map[uint8]int{}
	for seed := range 40 {
		next := chance(seed)
		c := limits.Config{Cores: 1 + next(3), Tasks: []int{3, 8, mostTasks}[next(3)], Tick: uint64(1 + next(200)), Slice: uint64(1 + next(60)), Origin: origins()[seed%4]}
		p := newPair(t, c)
		for range 150 {
			x := commandOf(next, c)
			if l := p.do(t, x); len(l) == 1 && strings.HasPrefix(l[0], "error ") {
				refused[x.Op]++
			} else {
				ok[x.Op]++
			}
		}
	}
	for op := range uint8(ops) {
		if ok[op] < 50 || op < tasks && refused[op] < 30 {
			t.Errorf("of the Op %d there were %d, and refused %d", op, ok[op], refused[op])
		}
	}
}
