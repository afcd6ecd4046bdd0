package audit_test

import (
	"math"
	"slices"
	"testing"

	"turnstone/account"
	"turnstone/api"
	"turnstone/audit"
	"turnstone/limits"
)

const (
	grain     = 1 << 20
	mostW     = 1 << 20
	mostSlice = 1 << 40
	mostTick  = 1 << 40
	mostTasks = 32
	mostCores = 8
)

// origins: wherever times begin, all that is told is the same; what lies near most of these goes round.
func origins() []uint64 {
	return []uint64{0, math.MaxUint64, 1 << 63, 88172645463325252}
}

// small is a configuration of small numbers.
func small(origin uint64) limits.Config {
	return limits.Config{Cores: 3, Tasks: 6, Tick: 9, Slice: 20, Origin: origin}
}

// A step is what is done with a book.
type step func(b *account.Book) api.Errno

func spawns(core int, w, slice uint64) step {
	return func(b *account.Book) api.Errno {
		_, e := b.Spawn(core, w, slice)
		return e
	}
}

func exits(id int) step { return func(b *account.Book) api.Errno { return b.Exit(id) } }

func sleeps(id int) step { return func(b *account.Book) api.Errno { return b.Sleep(id) } }

func wakes(id int) step { return func(b *account.Book) api.Errno { return b.Wake(id) } }

func weighs(id int, w uint64) step {
	return func(b *account.Book) api.Errno { return b.Weight(id, w) }
}

func slicesTo(id int, ns uint64) step {
	return func(b *account.Book) api.Errno { return b.Slice(id, ns) }
}

func migrates(id, core int) step {
	return func(b *account.Book) api.Errno { return b.Migrate(id, core) }
}

func ticks(ns uint64) step { return func(b *account.Book) api.Errno { return b.Tick(ns) } }

func bookOf(t *testing.T, c limits.Config, l ...step) *account.Book {
	t.Helper()
	b, e := account.New(c)
	if e != api.OK {
		t.Fatalf("of %+v: %d", c, e)
	}
	for i, x := range l {
		if e := x(b); e != api.OK {
			t.Fatalf("the step %d, of %+v: %d", i, b.Tasks(), e)
		}
		right(t, b)
	}
	return b
}

// right: all agrees.
func right(t *testing.T, b *account.Book) {
	t.Helper()
	if faults := audit.Faults(b); len(faults) != 0 || !audit.Right(b) {
		t.Fatalf("of %+v, of whom %v run, the faults are %v", b.Tasks(), b.Runs(), faults)
	}
	if got, wanted := audit.Weights(b), weightsOf(b); !slices.Equal(got, wanted) {
		t.Fatalf("of %+v the weights are %v, wanted %v", b.Tasks(), got, wanted)
	}
}

// faults: those rules don't hold, and no others.
func faults(t *testing.T, what string, b *account.Book, wanted ...int) {
	t.Helper()
	if got := audit.Faults(b); !slices.Equal(got, wanted) {
		t.Errorf("%s: the faults are %v, wanted %v", what, got, wanted)
	}
	if got := audit.Right(b); got != (len(wanted) == 0) {
		t.Errorf("%s: there is told %v of %v", what, got, wanted)
	}
}

// weightsOf tells who competes by the table.
func weightsOf(b *account.Book) []uint64 {
	weights := make([]uint64, b.Config().Cores)
	for _, x := range b.Tasks() {
		if x.State == 1 || x.State == 2 {
			weights[x.Core] += uint64(x.W)
		}
	}
	return weights
}

// chance: numbers without a pattern, but always the same.
func chance(seed int) func(n int) int {
	x := uint64(seed)*2 + 88172645463325253
	return func(n int) int {
		x ^= x << 13
		x ^= x >> 7
		x ^= x << 17
		return int(x >> 8 % uint64(n))
	}
}

// stepOf is one without a pattern, that may be refused: weights and lengths are from 1 to about so much.
func stepOf(next func(n int) int, c limits.Config, weight, length func() uint64) step {
	id, core := next(c.Tasks+2), next(c.Cores+1)
	switch next(16) {
	case 0, 1, 2:
		return spawns(core, weight(), length())
	case 3:
		return exits(id)
	case 4, 5:
		return sleeps(id)
	case 6, 7:
		return wakes(id)
	case 8:
		return weighs(id, weight())
	case 9:
		return slicesTo(id, length())
	case 10, 11:
		return migrates(id, core)
	}
	return ticks(length())
}
