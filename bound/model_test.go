package bound_test

import (
	"math"
	"math/big"
	"slices"
	"testing"

	"turnstone/account"
	"turnstone/api"
	"turnstone/bound"
	"turnstone/limits"
	"turnstone/wide"
)

const (
	grain     = 1 << 20
	mostW     = 1 << 20
	mostSlice = 1 << 40
	mostTick  = 1 << 40
	mostTasks = 32
	mostCores = 8
)

// origins: wherever times begin, all that is told is the same; what lies near most of these goes round.
func origins() []uint64 {
	return []uint64{0, math.MaxUint64, 1 << 63, 88172645463325252}
}

// small is a configuration of small numbers, but for its ticks.
func small(origin uint64) limits.Config {
	return limits.Config{Cores: 3, Tasks: 6, Tick: 2000, Slice: 2000, Origin: origin}
}

// A step is what is done with a book: with its error is told how long a tick was that there was.
type step func(b *account.Book) (uint64, api.Errno)

func done(what func(b *account.Book) api.Errno) step {
	return func(b *account.Book) (uint64, api.Errno) { return 0, what(b) }
}

func spawns(core int, w, slice uint64) step {
	return done(func(b *account.Book) api.Errno {
		_, e := b.Spawn(core, w, slice)
		return e
	})
}

func exits(id int) step { return done(func(b *account.Book) api.Errno { return b.Exit(id) }) }

func sleeps(id int) step { return done(func(b *account.Book) api.Errno { return b.Sleep(id) }) }

func wakes(id int) step { return done(func(b *account.Book) api.Errno { return b.Wake(id) }) }

func weighs(id int, w uint64) step {
	return done(func(b *account.Book) api.Errno { return b.Weight(id, w) })
}

func slicesTo(id int, ns uint64) step {
	return done(func(b *account.Book) api.Errno { return b.Slice(id, ns) })
}

func migrates(id, core int) step {
	return done(func(b *account.Book) api.Errno { return b.Migrate(id, core) })
}

func ticks(ns uint64) step {
	return func(b *account.Book) (uint64, api.Errno) {
		e := b.Tick(ns)
		if e != api.OK {
			return 0, e
		}
		return ns, e
	}
}

// A walk is a book, and the greatest tick that there was.
type walk struct {
	b    *account.Book
	tick uint64
}

// goes: one step more, that may be refused; behind it nobody is far from its share.
func (w *walk) goes(t *testing.T, x step) api.Errno {
	t.Helper()
	ns, e := x(w.b)
	w.tick = max(w.tick, ns)
	for tick := range fewTicks(w.tick) {
		checkTick(t, w.b, tick)
	}
	low, high := bound.Low(w.b, w.tick), bound.High(w.b, w.tick)
	if len(low)+len(high) != 0 {
		t.Fatalf("of %+v %v are short, and %v ahead, of a tick of %d", w.b.Tasks(), low, high, w.tick)
	}
	return e
}

// fewTicks are that tick, and such ones as are less.
func fewTicks(tick uint64) map[uint64]bool {
	return map[uint64]bool{tick: true, tick / 2: true, tick / 7: true, 0: true}
}

func walkOf(t *testing.T, c limits.Config, l ...step) *walk {
	t.Helper()
	b, e := account.New(c)
	if e != api.OK {
		t.Fatalf("of %+v: %d", c, e)
	}
	w := &walk{b: b}
	for i, x := range l {
		if e := w.goes(t, x); e != api.OK {
			t.Fatalf("the step %d, of %+v: %d", i, b.Tasks(), e)
		}
	}
	return w
}

func bookOf(t *testing.T, c limits.Config, l ...step) *account.Book {
	t.Helper()
	return walkOf(t, c, l...).b
}

// bigOf is a wide number as one without bounds.
func bigOf(n wide.Int) *big.Int {
	x, _ := new(big.Int).SetString(n.String(), 10)
	return x
}

func grainsOf(ns uint64) *big.Int {
	return new(big.Int).Mul(big.NewInt(grain), new(big.Int).SetUint64(ns))
}

// greatest is the greatest wide number.
func greatest() wide.Int { return wide.Int{Hi: math.MaxInt64, Lo: math.MaxUint64} }

// windowOf is what the document's words say of a core's window, from what the layers below tell.
func windowOf(b *account.Book, k int, tick uint64) *big.Int {
	c, _ := b.Core(k)
	window := new(big.Int).Add(grainsOf(tick), bigOf(c.Carried()))
	if most := bigOf(greatest()); window.Cmp(most) > 0 {
		return most
	}
	return window
}

// unfairOf likewise says who is short, and who is ahead.
func unfairOf(b *account.Book, tick uint64) (low, high []int) {
	if tick > mostTick {
		return nil, nil
	}
	for _, x := range b.Tasks() {
		c, _ := b.Core(x.Core)
		r, competes := c.Req(x.ID)
		if !competes {
			continue
		}
		told, _ := c.Lag(x.ID)
		lag, window := bigOf(told), windowOf(b, x.Core, tick)
		if new(big.Int).Add(lag, window).Sign() < 0 {
			low = append(low, x.ID)
		}
		if x.State == 1 && lag.Cmp(window) > 0 && lag.Cmp(grainsOf(r.Left)) > 0 {
			high = append(high, x.ID)
		}
	}
	return low, high
}

// checkTick holds all that is told of a tick against the model.
func checkTick(t *testing.T, b *account.Book, tick uint64) {
	t.Helper()
	for k := range b.Config().Cores {
		isWindow(t, b, k, tick)
	}
	low, high := unfairOf(b, tick)
	isUnfair(t, b, tick, low, high)
}

func isWindow(t *testing.T, b *account.Book, k int, tick uint64) {
	t.Helper()
	wanted, f := windowOf(b, k, tick), api.OK
	if tick > mostTick {
		wanted, f = new(big.Int), api.ErrRange
	}
	if got, e := bound.Window(b, k, tick); bigOf(got).Cmp(wanted) != 0 || e != f {
		t.Fatalf("of a tick of %d the window of the core %d is %v, %d, wanted %v, %d", tick, k, got, e, wanted, f)
	}
}

// isUnfair: those are short, and those ahead, and no others.
func isUnfair(t *testing.T, b *account.Book, tick uint64, low, high []int) {
	t.Helper()
	if got := bound.Low(b, tick); !slices.Equal(got, low) {
		t.Fatalf("of a tick of %d, and %+v, %v are short, wanted %v", tick, b.Tasks(), got, low)
	}
	if got := bound.High(b, tick); !slices.Equal(got, high) {
		t.Fatalf("of a tick of %d, and %+v, %v are ahead, wanted %v", tick, b.Tasks(), got, high)
	}
	ids := []int{7, 2, 1, 2, 0, 3, -1, 5, 4, 6, 33, math.MinInt, 1, math.MaxInt}
	var unfair []int
	for _, id := range ids {
		if slices.Contains(low, id) || slices.Contains(high, id) {
			unfair = append(unfair, id)
		}
	}
	if got := bound.Unfair(b, tick, ids...); !slices.Equal(got, unfair) {
		t.Fatalf("of a tick of %d, and %+v, %v are unfair, wanted %v", tick, b.Tasks(), got, unfair)
	}
}

// chance: numbers without a pattern, but always the same.
func chance(seed int) func(n int) int {
	x := uint64(seed)*2 + 88172645463325253
	return func(n int) int {
		x ^= x << 13
		x ^= x >> 7
		x ^= x << 17
		return int(x >> 8 % uint64(n))
	}
}

// lengthsOf are weights and lengths of a walk, each without a pattern.
func lengthsOf(next func(n int) int, kind int, c limits.Config) (weight, length func() uint64) {
	upTo := func(n int) func() uint64 { return func() uint64 { return uint64(next(n+1)) + 1 } }
	some := func(l ...uint64) func() uint64 { return func() uint64 { return l[next(len(l))] } }
	switch kind {
	case 0:
		return upTo(30), upTo(int(min(c.Tick, c.Slice)))
	case 1:
		// Of the greatest and the least weight, far apart.
		return some(1, 1, mostW, mostW-1, mostW+1, 0), some(c.Slice, c.Tick, c.Slice/2+1, c.Tick/3+1)
	}
	return func() uint64 { return uint64(1) << next(21) }, func() uint64 { return c.Tick - c.Tick/50*uint64(next(49)) }
}

// configOf is one for a walk: of the kinds above 0 of the greatest numbers.
func configOf(next func(n int) int, kind int) limits.Config {
	c := limits.Config{Cores: 1 + next(3), Tasks: []int{3, 8, mostTasks}[next(3)], Tick: mostTick, Slice: mostSlice, Origin: origins()[next(4)]}
	if kind == 0 {
		c.Tick, c.Slice = uint64(1+next(200)), uint64(1+next(60))
	}
	return c
}

// stepOf is one without a pattern, that may be refused.
func stepOf(next func(n int) int, c limits.Config, weight, length func() uint64) step {
	id, core := next(c.Tasks+2), next(c.Cores+1)
	switch next(16) {
	case 0, 1, 2:
		return spawns(core, weight(), length())
	case 3:
		return exits(id)
	case 4, 5:
		return sleeps(id)
	case 6, 7:
		return wakes(id)
	case 8:
		return weighs(id, weight())
	case 9:
		return slicesTo(id, length())
	case 10, 11:
		return migrates(id, core)
	}
	return ticks(length())
}
