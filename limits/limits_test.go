package limits_test

import (
	"math"
	"math/big"
	"slices"
	"testing"

	"turnstone/api"
	"turnstone/clamp"
	"turnstone/limits"
	"turnstone/wide"
)

const (
	grain     = 1 << 20
	mostCores = 8
	mostTasks = 32
	mostW     = 1 << 20
	mostSlice = 1 << 40
	mostTick  = 1 << 40
)

var (
	least    = wide.Int{Hi: math.MinInt64}
	greatest = wide.Int{Hi: math.MaxInt64, Lo: math.MaxUint64}
)

// counts of cores or tasks, such among them that may not be.
func counts() []int {
	return []int{math.MinInt, math.MinInt + 1, -1 << 32, -9, -1, 0, 1, 2, 7, 8, 9, 31, 32, 33, 1 << 30, 1<<32 + 1, math.MaxInt - 1, math.MaxInt}
}

// spans of ticks or slices, such among them that may not be, and some of which only the last bits would be.
func spans() []uint64 {
	return []uint64{
		0, 1, 2, 3, 1000, 1<<20 - 1, 1 << 20, 1<<20 + 1, 1<<32 + 5, 1<<40 - 1, 1 << 40, 1<<40 + 1, 1 << 41, 1<<44 + 1,
		1<<62 + 1, 1<<63 - 1, 1 << 63, 1<<63 + 1, math.MaxUint64 - 1, math.MaxUint64,
	}
}

// origins: all numbers are some.
func origins() []uint64 { return []uint64{0, 1, 1<<40 + 1, 1 << 63, math.MaxUint64} }

// configs of all kinds, most of which may not be.
func configs() []limits.Config {
	var l []limits.Config
	for _, n := range counts() {
		for _, tick := range spans() {
			for _, slice := range spans() {
				l = append(l, limits.Config{Cores: n, Tasks: 5, Tick: tick, Slice: slice}, limits.Config{Cores: 3, Tasks: n, Tick: tick, Slice: slice, Origin: tick})
			}
		}
	}
	return l
}

// within: OK of a number from the least one to the most.
func within[N int | uint64](n, least, most N) api.Errno {
	if n < least || n > most {
		return api.ErrRange
	}
	return api.OK
}

func TestP19_1Check(t *testing.T) {
	for _, c := range configs() {
		wanted := api.OK
		for _, e := range []api.Errno{
			within(c.Cores, 1, mostCores),
			within(c.Tasks, 1, mostTasks),
			within(c.Tick, 1, mostTick),
			within(c.Slice, 1, mostSlice),
		} {
			wanted = max(wanted, e)
		}
		if got := c.Check(); got != wanted {
			t.Fatalf("of %+v: %d, wanted %d", c, got, wanted)
		}
	}
}

func TestP19_1CheckEdges(t *testing.T) {
	for _, origin := range origins() {
		for _, c := range []struct {
			cores, tasks int
			tick, slice  uint64
			wanted       api.Errno
		}{
			{1, 1, 1, 1, api.OK},
			{8, 32, 1 << 40, 1 << 40, api.OK},
			{2, 3, 4, 5, api.OK},
			{8, 1, 1, 1, api.OK},
			{1, 32, 1, 1, api.OK},
			{1, 1, 1 << 40, 1, api.OK},
			{1, 1, 1, 1 << 40, api.OK},
			{0, 0, 0, 0, api.ErrRange},
			{0, 1, 1, 1, api.ErrRange},
			{1, 0, 1, 1, api.ErrRange},
			{1, 1, 0, 1, api.ErrRange},
			{1, 1, 1, 0, api.ErrRange},
			{9, 32, 1 << 40, 1 << 40, api.ErrRange},
			{8, 33, 1 << 40, 1 << 40, api.ErrRange},
			{8, 32, 1<<40 + 1, 1 << 40, api.ErrRange},
			{8, 32, 1 << 40, 1<<40 + 1, api.ErrRange},
			{32, 8, 1, 1, api.ErrRange},
			{-1, 1, 1, 1, api.ErrRange},
			{1, -1, 1, 1, api.ErrRange},
			{math.MinInt, 1, 1, 1, api.ErrRange},
			{1, math.MinInt, 1, 1, api.ErrRange},
			{math.MaxInt, 1, 1, 1, api.ErrRange},
			{1, math.MaxInt, 1, 1, api.ErrRange},
			{1, 1, math.MaxUint64, 1, api.ErrRange},
			{1, 1, 1, math.MaxUint64, api.ErrRange},
			{1, 1, 1<<63 + 1, 1, api.ErrRange},
			{1, 1, 1, 1<<63 + 1, api.ErrRange},
		} {
			x := limits.Config{Cores: c.cores, Tasks: c.tasks, Tick: c.tick, Slice: c.slice, Origin: origin}
			if got := x.Check(); got != c.wanted {
				t.Errorf("of %+v: %d, wanted %d", x, got, c.wanted)
			}
		}
	}
}

func TestP19_1Core(t *testing.T) {
	for _, n := range counts() {
		numbers := append(counts(), n-2, n-1, n, n+1, -n)
		for _, k := range numbers {
			wanted := api.ErrCore
			// By numbers without bounds: one less than the least number is none.
			last := new(big.Int).Sub(big.NewInt(int64(n)), big.NewInt(1))
			if k >= 0 && big.NewInt(int64(k)).Cmp(last) <= 0 {
				wanted = api.OK
			}
			for _, c := range []limits.Config{{Cores: n}, {Cores: n, Tasks: 3, Tick: 4, Slice: 5, Origin: 6}} {
				if got := c.Core(k); got != wanted {
					t.Fatalf("the core %d of %+v: %d, wanted %d", k, c, got, wanted)
				}
			}
		}
	}
}

func TestP19_1CoreEdges(t *testing.T) {
	for _, c := range []struct {
		cores, k int
		wanted   api.Errno
	}{
		{1, 0, api.OK}, {1, 1, api.ErrCore}, {1, -1, api.ErrCore},
		{2, 1, api.OK}, {2, 2, api.ErrCore},
		{8, 7, api.OK}, {8, 8, api.ErrCore}, {8, math.MinInt, api.ErrCore}, {8, math.MaxInt, api.ErrCore}, {8, 1 << 32, api.ErrCore},
		// Of any configuration, also of one that may not be.
		{0, 0, api.ErrCore}, {0, -1, api.ErrCore}, {-3, -4, api.ErrCore}, {-3, 0, api.ErrCore},
		{9, 8, api.OK}, {1000, 999, api.OK}, {1000, 1000, api.ErrCore},
		{math.MinInt, 0, api.ErrCore}, {math.MinInt, math.MaxInt, api.ErrCore}, {math.MinInt, math.MinInt, api.ErrCore},
		{math.MaxInt, math.MaxInt - 1, api.OK}, {math.MaxInt, math.MaxInt, api.ErrCore},
	} {
		if got := (limits.Config{Cores: c.cores, Tasks: 3, Tick: 4, Slice: 5}).Core(c.k); got != c.wanted {
			t.Errorf("the core %d of %d: %d, wanted %d", c.k, c.cores, got, c.wanted)
		}
	}
}

func TestP19_1WeightRequestTime(t *testing.T) {
	numbers := append(spans(), 1<<19, 1<<20-2, 1<<20+2, 7)
	for _, slice := range spans() {
		for _, tick := range spans() {
			c := limits.Config{Cores: 2, Tasks: 3, Tick: tick, Slice: slice, Origin: 9}
			for _, n := range append(numbers, slice-1, slice+1, tick-1, tick+1) {
				if got, wanted := c.Weight(n), within(n, 1, mostW); got != wanted {
					t.Fatalf("the weight %d of %+v: %d, wanted %d", n, c, got, wanted)
				}
				if got, wanted := c.Request(n), within(n, 1, min(slice, mostSlice)); got != wanted {
					t.Fatalf("the request %d of %+v: %d, wanted %d", n, c, got, wanted)
				}
				if got, wanted := c.Time(n), within(n, 1, min(tick, mostTick)); got != wanted {
					t.Fatalf("the time %d of %+v: %d, wanted %d", n, c, got, wanted)
				}
			}
		}
	}
}

func TestP19_1WeightRequestTimeEdges(t *testing.T) {
	c := limits.Config{Cores: 2, Tasks: 3, Tick: 4, Slice: 5}
	small := limits.Config{Cores: 2, Tasks: 3, Tick: 1, Slice: 1}
	full := limits.Config{Cores: 8, Tasks: 32, Tick: mostTick, Slice: mostSlice}
	over := limits.Config{Cores: 99, Tasks: -1, Tick: math.MaxUint64, Slice: math.MaxUint64}
	none := limits.Config{Cores: 2, Tasks: 3}
	for _, x := range []struct {
		what        string
		got, wanted api.Errno
	}{
		{"no weight", c.Weight(0), api.ErrRange},
		{"the least weight", c.Weight(1), api.OK},
		{"the greatest weight", c.Weight(1 << 20), api.OK},
		{"a weight too great", c.Weight(1<<20 + 1), api.ErrRange},
		{"a weight of which only the last 32 bits may be", c.Weight(1<<32 + 1), api.ErrRange},
		{"the greatest number as a weight", c.Weight(math.MaxUint64), api.ErrRange},
		{"the greatest weight of no limits", none.Weight(1 << 20), api.OK},
		{"no weight of no limits", none.Weight(0), api.ErrRange},
		{"a weight too great of great limits", over.Weight(1<<20 + 1), api.ErrRange},
		{"the zero configuration's weight", limits.Config{}.Weight(1), api.OK},
		{"no request", c.Request(0), api.ErrRange},
		{"the least request", c.Request(1), api.OK},
		{"the greatest request", c.Request(5), api.OK},
		{"a request too great, that would be for its tick too", c.Request(6), api.ErrRange},
		{"the only request", small.Request(1), api.OK},
		{"a request above the only one", small.Request(2), api.ErrRange},
		{"the greatest request of all", full.Request(1 << 40), api.OK},
		{"a request above the greatest one of all", full.Request(1<<40 + 1), api.ErrRange},
		{"the greatest request of greater limits", over.Request(1 << 40), api.OK},
		{"a request above it, of greater limits", over.Request(1<<40 + 1), api.ErrRange},
		{"the greatest number as a request", over.Request(math.MaxUint64), api.ErrRange},
		{"no request of greater limits", over.Request(0), api.ErrRange},
		{"a request of no limits", none.Request(1), api.ErrRange},
		{"no request of no limits", none.Request(0), api.ErrRange},
		{"no time", c.Time(0), api.ErrRange},
		{"the least time", c.Time(1), api.OK},
		{"the greatest time", c.Time(4), api.OK},
		{"a time too great, that would be for its slice", c.Time(5), api.ErrRange},
		{"the only time", small.Time(1), api.OK},
		{"a time above the only one", small.Time(2), api.ErrRange},
		{"the greatest time of all", full.Time(1 << 40), api.OK},
		{"a time above the greatest one of all", full.Time(1<<40 + 1), api.ErrRange},
		{"the greatest time of greater limits", over.Time(1 << 40), api.OK},
		{"a time above it, of greater limits", over.Time(1<<40 + 1), api.ErrRange},
		{"the greatest number as a time", over.Time(math.MaxUint64), api.ErrRange},
		{"no time of greater limits", over.Time(0), api.ErrRange},
		{"a time of no limits", none.Time(1), api.ErrRange},
		{"no time of no limits", none.Time(0), api.ErrRange},
	} {
		if x.got != x.wanted {
			t.Errorf("%s: %d, wanted %d", x.what, x.got, x.wanted)
		}
	}
}

// lags around a window, around where 64 bits end, and at the edges of the wide numbers.
func lags(window int64) []wide.Int {
	l := []wide.Int{least, greatest, {Hi: 1, Lo: 3}, {Hi: -2, Lo: 3}, wide.OfU(1<<64 - 3), wide.OfU(1 << 63)}
	for _, x := range []int64{0, window, window / 2, math.MaxInt64, math.MinInt64} {
		for more := int64(-2); more <= 2; more++ {
			if a, ok := wide.Of(x).Add(wide.Of(more)); ok {
				below, _ := a.Neg()
				l = append(l, a, below)
			}
		}
	}
	return l
}

// kept is what the document says of Keep, by numbers without bounds.
func kept(tick uint64, lag wide.Int, slice uint64) *big.Int {
	if slice < 1 || slice > mostSlice || tick < 1 || tick > mostTick {
		return new(big.Int)
	}
	high := new(big.Int).SetUint64(slice)
	high.Add(high, high)
	high.Add(high, new(big.Int).SetUint64(tick))
	high.Mul(high, big.NewInt(grain))
	low := new(big.Int).Neg(high)
	v := new(big.Int).Lsh(big.NewInt(lag.Hi), 64)
	v.Add(v, new(big.Int).SetUint64(lag.Lo))
	switch {
	case v.Cmp(low) < 0:
		return low
	case v.Cmp(high) > 0:
		return high
	}
	return v
}

func TestP19_2Keep(t *testing.T) {
	for _, tick := range spans() {
		for _, own := range []uint64{0, 1, 5, mostSlice, math.MaxUint64} {
			for _, n := range []int{0, 2, 99} {
				c := limits.Config{Cores: n, Tasks: n + 1, Tick: tick, Slice: own, Origin: tick}
				for _, slice := range spans() {
					window, _ := clamp.Window(slice, tick)
					for _, lag := range lags(window) {
						if got, wanted := c.Keep(lag, slice), kept(tick, lag, slice); big.NewInt(got).Cmp(wanted) != 0 {
							t.Fatalf("of %+v, %s and the slice %d: %d, wanted %v", c, lag, slice, got, wanted)
						}
					}
				}
			}
		}
	}
}

func TestP19_2KeepEdges(t *testing.T) {
	full := 3 * int64(1<<60)
	for _, x := range []struct {
		what        string
		tick, own   uint64
		lag         wide.Int
		slice       uint64
		wanted      int64
		alsoBelowIt bool
	}{
		{"less than the window", 4, 5, wide.Of(6<<20 - 1), 1, 6<<20 - 1, true},
		{"just the window", 4, 5, wide.Of(6 << 20), 1, 6 << 20, true},
		{"more than the window", 4, 5, wide.Of(6<<20 + 1), 1, 6 << 20, true},
		{"much more", 4, 5, wide.Of(1 << 40), 1, 6 << 20, true},
		{"more than 64 bits", 4, 5, wide.Int{Hi: 1, Lo: 3}, 1, 6 << 20, true},
		{"the greatest lag", 4, 5, greatest, 1, 6 << 20, true},
		{"the least lag", 4, 5, least, 1, -6 << 20, false},
		{"nothing", 4, 5, wide.Of(0), 1, 0, true},
		{"the window of another slice", 4, 5, greatest, 3, 10 << 20, true},
		{"of a slice above the configuration's", 4, 5, greatest, 6, 16 << 20, true},
		{"of the greatest slice of all", 4, 5, greatest, 1 << 40, 1<<61 + 4<<20, true},
		{"of the greatest tick of all", 1 << 40, 5, greatest, 1, 1<<60 + 2<<20, true},
		{"the greatest window of all", 1 << 40, 1 << 40, greatest, 1 << 40, full, true},
		{"more than the greatest window of all", 1 << 40, 1 << 40, wide.Of(full + 1), 1 << 40, full, true},
		{"less than it", 1 << 40, 1 << 40, wide.Of(full - 1), 1 << 40, full - 1, true},
		{"the least window of all", 1, 1, greatest, 1, 3 << 20, true},
		{"where the configuration has no slice", 4, 0, greatest, 1, 6 << 20, true},
		{"of no slice", 4, 5, wide.Of(7), 0, 0, true},
		{"of a slice too great", 4, 5, wide.Of(7), 1<<40 + 1, 0, true},
		{"of the greatest number as a slice", 4, 5, wide.Of(7), math.MaxUint64, 0, true},
		{"of a slice that would go round", 4, 5, wide.Of(7), 1 << 63, 0, true},
		{"of no tick", 0, 5, wide.Of(7), 1, 0, true},
		{"of a tick too great", 1<<40 + 1, 5, wide.Of(7), 1, 0, true},
		{"of the greatest number as a tick", math.MaxUint64, 5, wide.Of(7), 1, 0, true},
	} {
		c := limits.Config{Cores: 2, Tasks: 3, Tick: x.tick, Slice: x.own}
		if got := c.Keep(x.lag, x.slice); got != x.wanted {
			t.Errorf("%s: %d, wanted %d", x.what, got, x.wanted)
		}
		if below, _ := x.lag.Neg(); x.alsoBelowIt && c.Keep(below, x.slice) != -x.wanted {
			t.Errorf("%s, below 0: %d, wanted %d", x.what, c.Keep(below, x.slice), -x.wanted)
		}
	}
}

func TestP19_2KeptIsKept(t *testing.T) {
	for _, tick := range spans() {
		c := limits.Config{Cores: 2, Tasks: 3, Tick: tick, Slice: 5}
		for _, slice := range spans() {
			window, _ := clamp.Window(slice, tick)
			for _, lag := range lags(window) {
				once := c.Keep(lag, slice)
				if twice := c.Keep(wide.Of(once), slice); twice != once || once < -window || once > window {
					t.Fatalf("of the tick %d, %s and the slice %d: %d, and %d then", tick, lag, slice, once, twice)
				}
			}
		}
	}
}

func TestP19_2All(t *testing.T) {
	for _, x := range []struct {
		what   string
		parts  []api.Errno
		wanted api.Errno
	}{
		{"of none", nil, api.OK},
		{"of an empty list", []api.Errno{}, api.OK},
		{"of one that is OK", []api.Errno{api.OK}, api.OK},
		{"of some that are OK", []api.Errno{api.OK, api.OK, api.OK}, api.OK},
		{"of one that isn't", []api.Errno{api.ErrTask}, api.ErrTask},
		{"the first one isn't", []api.Errno{api.ErrTask, api.OK, api.OK}, api.ErrTask},
		{"the last one isn't", []api.Errno{api.OK, api.OK, api.ErrNil}, api.ErrNil},
		{"the greater number ahead", []api.Errno{api.OK, api.ErrNone, api.ErrNil}, api.ErrNone},
		{"the lesser number ahead", []api.Errno{api.ErrNil, api.OK, api.ErrNone}, api.ErrNil},
		{"a number below 0", []api.Errno{api.OK, -1, api.ErrNil}, -1},
		{"a number that api doesn't name", []api.Errno{api.OK, 99, api.ErrNil}, 99},
	} {
		if got := limits.All(x.parts...); got != x.wanted {
			t.Errorf("%s: %d, wanted %d", x.what, got, x.wanted)
		}
	}
}

func TestP19_2AllIsTheFirst(t *testing.T) {
	for e := api.ErrNil; e <= api.ErrNone; e++ {
		for behind := api.OK; behind <= api.ErrNone; behind++ {
			for place := range 40 {
				parts := append(make([]api.Errno, place), e, behind)
				if got := limits.All(parts...); got != e {
					t.Fatalf("of %v: %d", parts, got)
				}
			}
		}
	}
}

func TestP19_2AllLeavesItsPartsAlone(t *testing.T) {
	parts := []api.Errno{api.OK, api.ErrCore, api.OK, api.ErrTask, api.ErrNil}
	were := slices.Clone(parts)
	limits.All(parts[:3]...)
	if !slices.Equal(parts, were) {
		t.Errorf("its parts, or what is beside them, are %v now", parts)
	}
}

// asked: all that may be asked for by these numbers, with a configuration.
func asked(c limits.Config, k int, n uint64) []api.Errno {
	return []api.Errno{c.Core(k), c.Weight(n), c.Request(n), c.Time(n)}
}

func TestP19_3WithGreaterLimits(t *testing.T) {
	numbers := []uint64{0, 1, 4, 5, 1 << 20, 1<<20 + 1, 1 << 40, 1<<40 + 1, math.MaxUint64}
	own := []uint64{0, 1, 4, 5, 1 << 40, 1<<40 + 1, math.MaxUint64}
	cores := []int{math.MinInt, 0, 1, 2, 8, 9, math.MaxInt}
	for i, few := range cores {
		for j, short := range own {
			less := limits.Config{Cores: few, Tasks: 3, Tick: short, Slice: own[len(own)-1-j]}
			for _, many := range cores[i:] {
				for _, more := range own {
					greater := limits.Config{Cores: many, Tasks: 4, Tick: max(less.Tick, more), Slice: max(less.Slice, more), Origin: 7}
					for k := -1; k < 10; k++ {
						for _, n := range numbers {
							withLess, withMore := asked(less, k, n), asked(greater, k, n)
							for place := range withLess {
								if withLess[place] == api.OK && withMore[place] != api.OK {
									t.Fatalf("core %d and %d may be asked for with %+v, %v, but with %+v %v", k, n, less, withLess, greater, withMore)
								}
							}
						}
					}
				}
			}
		}
	}
}

func TestP19_3WhatMayBeTheGreatestMayBeAskedFor(t *testing.T) {
	for _, c := range configs() {
		if c.Check() != api.OK {
			continue
		}
		if got := limits.All(c.Core(0), c.Core(c.Cores-1), c.Request(1), c.Request(c.Slice), c.Time(1), c.Time(c.Tick)); got != api.OK {
			t.Fatalf("%+v may be, but of its own limits: %d", c, got)
		}
		if c.Core(c.Cores) == api.OK || c.Request(c.Slice+1) == api.OK || c.Time(c.Tick+1) == api.OK {
			t.Fatalf("more may be asked for than there is with %+v", c)
		}
	}
}
