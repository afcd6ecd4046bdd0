package query_test

import (
	"fmt"
	"math"
	"slices"
	"testing"

	"turnstone/account"
	"turnstone/api"
	"turnstone/limits"
	"turnstone/query"
	"turnstone/table"
)

const (
	mostW     = 1 << 20
	mostSlice = 1 << 40
	mostTick  = 1 << 40
	mostTasks = 32
	mostCores = 8
)

// origins: wherever times begin, all that is told is the same; what lies near most of these goes round.
func origins() []uint64 {
	return []uint64{0, math.MaxUint64, 1 << 63, 88172645463325252}
}

// small is a configuration of small numbers.
func small(origin uint64) limits.Config {
	return limits.Config{Cores: 2, Tasks: 5, Tick: 9, Slice: 20, Origin: origin}
}

// A step is what is done with a book.
type step func(b *account.Book) api.Errno

func spawns(core int, w, slice uint64) step {
	return func(b *account.Book) api.Errno {
		_, e := b.Spawn(core, w, slice)
		return e
	}
}

func exits(id int) step { return func(b *account.Book) api.Errno { return b.Exit(id) } }

func sleeps(id int) step { return func(b *account.Book) api.Errno { return b.Sleep(id) } }

func wakes(id int) step { return func(b *account.Book) api.Errno { return b.Wake(id) } }

func weighs(id int, w uint64) step {
	return func(b *account.Book) api.Errno { return b.Weight(id, w) }
}

func slicesTo(id int, ns uint64) step {
	return func(b *account.Book) api.Errno { return b.Slice(id, ns) }
}

func migrates(id, core int) step {
	return func(b *account.Book) api.Errno { return b.Migrate(id, core) }
}

func ticks(ns uint64) step { return func(b *account.Book) api.Errno { return b.Tick(ns) } }

func do(t *testing.T, b *account.Book, l ...step) {
	t.Helper()
	for i, x := range l {
		if e := x(b); e != api.OK {
			t.Fatalf("the step %d, of %+v: %d", i, b.Tasks(), e)
		}
	}
}

func bookOf(t *testing.T, c limits.Config, l ...step) *account.Book {
	t.Helper()
	b, e := account.New(c)
	if e != api.OK {
		t.Fatalf("of %+v: %d", c, e)
	}
	do(t, b, l...)
	return b
}

// rowOf is what the document's words say of a task that is there, from what the layers below tell.
func rowOf(b *account.Book, x table.Task) query.Row {
	row := query.Row{Task: x}
	row.Entry, _ = b.Entry(x.ID)
	row.Lag, _ = b.Lag(x.ID)
	for k, id := range b.Runs() {
		if k == x.Core && id == x.ID {
			row.Runs = true
		}
	}
	for k := range b.Config().Cores {
		c, _ := b.Core(k)
		for _, r := range c.Reqs() {
			if r.ID == x.ID {
				row.Left = r.Left
			}
		}
	}
	return row
}

// coreOf likewise says it of a core, its tasks told by the table.
func coreOf(b *account.Book, k int) query.Core {
	x := query.Core{Number: k, Run: b.Runs()[k]}
	x.Count, _ = b.Count(k)
	c, _ := b.Core(k)
	x.Carried = c.Carried()
	for _, y := range b.Tasks() {
		if y.Core != k || y.State == 3 {
			continue
		}
		x.Weight += uint64(y.W)
		if y.State == 1 {
			x.Runnable++
		} else {
			x.Lingering++
		}
	}
	return x
}

func stateOf(n uint8) string {
	return map[uint8]string{0: "free", 1: "runnable", 2: "lingering", 3: "sleeping"}[n]
}

func lineOf(r query.Row) string {
	state, runs := "other", "waits"
	if r.Task.State < 4 {
		state = stateOf(r.Task.State)
	}
	if r.Runs {
		runs = "runs"
	}
	x, y := r.Task, r.Entry
	return fmt.Sprintf("%d %s %d %d %d %s %d %s %d %d %d %d", x.ID, state, x.Core, x.W, x.Slice, r.Lag.String(), r.Left, runs, y.Served, y.Requests, y.Parts, y.Gone)
}

func coreLineOf(c query.Core) string {
	return fmt.Sprintf("core %d %d %d %d %d %s %d %d %d", c.Number, c.Run, c.Runnable, c.Lingering, c.Weight, c.Carried.String(), c.Count.Busy, c.Count.Idle, c.Count.Switches)
}

// someStates: such lists among them as have one twice, and one that isn't any.
func someStates() [][]uint8 {
	return [][]uint8{
		{1}, {2}, {3}, {1, 2}, {2, 1}, {1, 3}, {3, 2}, {1, 2, 3}, {3, 2, 1}, {2, 2}, {3, 1, 3, 1},
		{0}, {0, 0}, {4}, {255}, {0, 1}, {4, 2, 255}, {0, 1, 2, 3, 4},
	}
}

// check holds all that can be asked of a book against what the words say.
func check(t *testing.T, b *account.Book) {
	t.Helper()
	var all []query.Row
	for _, x := range b.Tasks() {
		wanted := rowOf(b, x)
		if got, e := query.Task(b, x.ID); got != wanted || e != api.OK {
			t.Fatalf("of %d there is told %+v, %d, wanted %+v", x.ID, got, e, wanted)
		}
		all = append(all, wanted)
	}
	for _, states := range [][]uint8{nil, {}} {
		if got := query.Tasks(b, states...); !slices.Equal(got, all) {
			t.Fatalf("of all there is told %+v, wanted %+v", got, all)
		}
	}
	for _, states := range someStates() {
		in := func(r query.Row) bool { return slices.Index(states, r.Task.State) < 0 }
		wanted := slices.DeleteFunc(slices.Clone(all), in)
		if got := query.Tasks(b, states...); !slices.Equal(got, wanted) {
			t.Fatalf("of the states %v there is told %+v, wanted %+v", states, got, wanted)
		}
	}
	checkCores(t, b)
	checkLines(t, all, query.Cores(b))
	checkSums(t, b)
}

func checkCores(t *testing.T, b *account.Book) {
	t.Helper()
	var cores []query.Core
	for k := range b.Config().Cores {
		wanted := coreOf(b, k)
		if got, e := query.Of(b, k); got != wanted || e != api.OK {
			t.Fatalf("of the core %d there is told %+v, %d, wanted %+v", k, got, e, wanted)
		}
		cores = append(cores, wanted)
	}
	if got := query.Cores(b); !slices.Equal(got, cores) {
		t.Fatalf("of all cores there is told %+v, wanted %+v", got, cores)
	}
}

func checkLines(t *testing.T, rows []query.Row, cores []query.Core) {
	t.Helper()
	var lines, coreLines []string
	for _, r := range rows {
		lines = append(lines, lineOf(r))
	}
	for _, c := range cores {
		coreLines = append(coreLines, coreLineOf(c))
	}
	if got := query.Lines(rows...); !slices.Equal(got, lines) {
		t.Fatalf("the lines are %q, wanted %q", got, lines)
	}
	if got := query.CoreLines(cores...); !slices.Equal(got, coreLines) {
		t.Fatalf("the cores' lines are %q, wanted %q", got, coreLines)
	}
}

// checkSums: what follows from all that is told of a core, and of its tasks.
func checkSums(t *testing.T, b *account.Book) {
	t.Helper()
	for _, c := range query.Cores(b) {
		var weight uint64
		var lags int64
		n := 0
		for _, r := range query.Tasks(b, table.Runnable, table.Lingering) {
			if r.Task.Core != c.Number {
				continue
			}
			lag, ok := r.Lag.Small()
			if !ok {
				t.Fatalf("the lag of %+v isn't small", r)
			}
			weight += uint64(r.Task.W)
			lags += lag
			n++
		}
		if c.Weight != weight || c.Runnable+c.Lingering != n {
			t.Fatalf("%+v, but %d tasks have the weights %d", c, n, weight)
		}
		if lags > 0 || n == 0 && lags != 0 || n > 0 && lags <= -int64(n) {
			t.Fatalf("on %+v the lags are %d together, of %d tasks", c, lags, n)
		}
	}
}

// chance: numbers without a pattern, but always the same.
func chance(seed int) func(n int) int {
	x := uint64(seed)*2 + 88172645463325253
	return func(n int) int {
		x ^= x << 13
		x ^= x >> 7
		x ^= x << 17
		return int(x >> 8 % uint64(n))
	}
}

// stepOf is one without a pattern, that may be refused.
func stepOf(next func(n int) int, c limits.Config) step {
	id, core := next(c.Tasks+1), next(c.Cores)
	w, ns := uint64(next(8)*next(8)+1), uint64(next(int(c.Slice))+1)
	switch next(16) {
	case 0, 1, 2:
		return spawns(core, w, ns)
	case 3:
		return exits(id)
	case 4, 5:
		return sleeps(id)
	case 6, 7:
		return wakes(id)
	case 8:
		return weighs(id, w)
	case 9:
		return slicesTo(id, ns)
	case 10, 11:
		return migrates(id, core)
	}
	return ticks(uint64(next(int(c.Tick)) + 1))
}
