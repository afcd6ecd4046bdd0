package clamp_test

import (
	"math"
	"math/big"
	"slices"
	"testing"

	"turnstone/clamp"
	"turnstone/wide"
)

const (
	grain     = 1 << 20
	mostSlice = 1 << 40
	mostTick  = 1 << 40
)

var (
	least    = wide.Int{Hi: math.MinInt64}
	greatest = wide.Int{Hi: math.MaxInt64, Lo: math.MaxUint64}
)

func number(x uint64) *big.Int { return new(big.Int).SetUint64(x) }

func value(a wide.Int) *big.Int {
	v := new(big.Int).Lsh(big.NewInt(a.Hi), 64)
	return v.Add(v, number(a.Lo))
}

// atMostGreatest is the wide number that is so great, or the greatest one, of a number that isn't below 0.
func atMostGreatest(v *big.Int) wide.Int {
	if v.Cmp(value(greatest)) > 0 {
		return greatest
	}
	hi, lo := new(big.Int).DivMod(v, new(big.Int).Lsh(big.NewInt(1), 64), new(big.Int))
	return wide.Int{Hi: hi.Int64(), Lo: lo.Uint64()}
}

// spans of slices and ticks, such among them that may not be.
func spans() []uint64 {
	return []uint64{
		0, 1, 2, 3, 1000, 1<<20 - 1, 1 << 20, 1<<32 + 5, 1<<39 + 1, 1<<40 - 1, 1 << 40, 1<<40 + 1, 1 << 41, 1 << 43, 1<<43 + 1, 1 << 44,
		1<<44 + 1, 1 << 62, 1<<63 - 1, 1 << 63, 1<<63 + 1, 1<<64 - 1<<40, math.MaxUint64 - 1, math.MaxUint64,
	}
}

// windows of all kinds, the edges of 64 bits among them.
func windows() []int64 {
	return []int64{
		0, 1, 2, 5, 1000003, 3 * grain, 1 << 40, 1 << 60, 3 << 60, math.MaxInt64 - 1, math.MaxInt64,
		-1, -2, -5, -1000003, -3 << 60, math.MinInt64 + 1, math.MinInt64,
	}
}

// lags of all kinds, in their order: around all windows, around where 64 bits end, and the edges of the wide numbers.
func lags() []wide.Int {
	l := []wide.Int{least, greatest, {Hi: math.MinInt64, Lo: 1}, {Hi: math.MinInt64, Lo: math.MaxUint64}, {Hi: math.MaxInt64}, {Hi: math.MaxInt64, Lo: math.MaxUint64 - 1}}
	for _, w := range append(windows(), 7, -7, 1<<32, -1<<32) {
		for _, centre := range []wide.Int{wide.Of(w), {Hi: w}, {Hi: w, Lo: uint64(w)}, {Hi: 0, Lo: uint64(w)}, {Hi: -1, Lo: uint64(w)}, {Hi: 1, Lo: uint64(w)}, {Hi: -2, Lo: uint64(w)}} {
			for _, more := range []int64{-2, -1, 0, 1, 2} {
				if a, ok := centre.Add(wide.Of(more)); ok {
					l = append(l, a)
				}
			}
			if below, ok := centre.Neg(); ok {
				l = append(l, below)
			}
		}
	}
	slices.SortFunc(l, wide.Int.Cmp)
	return slices.Compact(l)
}

// window is what the document says of Window, by numbers without bounds.
func window(slice, tick uint64) (*big.Int, bool) {
	if slice < 1 || slice > mostSlice || tick < 1 || tick > mostTick {
		return new(big.Int), false
	}
	both := new(big.Int).Add(number(slice), number(slice))
	both.Add(both, number(tick))
	return both.Mul(both, big.NewInt(grain)), true
}

// clamped is what the document says of Clamp, by numbers without bounds.
func clamped(lag wide.Int, window int64) *big.Int {
	high := big.NewInt(max(window, 0))
	low := new(big.Int).Neg(high)
	switch v := value(lag); {
	case v.Cmp(low) < 0:
		return low
	case v.Cmp(high) > 0:
		return high
	default:
		return v
	}
}

// carried is what the document says of Carried, by numbers without bounds.
func carried(lags []wide.Int) wide.Int {
	all := new(big.Int)
	for _, lag := range lags {
		all.Add(all, value(size(lag)))
		all.Add(all, big.NewInt(2))
	}
	return atMostGreatest(all)
}

// size is what the document says of Size, by numbers without bounds.
func size(lag wide.Int) wide.Int {
	v := value(lag)
	return atMostGreatest(v.Abs(v))
}

func TestP12_1Window(t *testing.T) {
	for _, slice := range spans() {
		for _, tick := range spans() {
			got, ok := clamp.Window(slice, tick)
			if wanted, is := window(slice, tick); big.NewInt(got).Cmp(wanted) != 0 || ok != is {
				t.Fatalf("window of the slice %d and the tick %d: %d, %v, wanted %v, %v", slice, tick, got, ok, wanted, is)
			}
		}
	}
}

func TestP12_1WindowEdges(t *testing.T) {
	for _, c := range []struct {
		slice, tick uint64
		wanted      int64
		ok          bool
	}{
		{1, 1, 3 * grain, true},
		{2, 1, 5 * grain, true},
		{1, 2, 4 * grain, true},
		{1, mostTick, 1<<60 + 2*grain, true},
		{mostSlice, 1, 1<<61 + grain, true},
		{mostSlice, mostTick, 3 << 60, true},
		{mostSlice - 1, mostTick - 1, 3<<60 - 3*grain, true},
		{0, 1, 0, false},
		{1, 0, 0, false},
		{0, 0, 0, false},
		{mostSlice + 1, 1, 0, false},
		{1, mostTick + 1, 0, false},
		{mostSlice, mostTick + 1, 0, false},
		{mostSlice + 1, mostTick, 0, false},
		{1 << 63, 1, 0, false},
		{1, 1 << 63, 0, false},
		{1<<63 + 1, 1, 0, false},
		{1, 1<<64 - 1, 0, false},
		{1<<64 - 1, 3, 0, false},
		{1<<64 - 1, 1<<64 - 1, 0, false},
	} {
		if got, ok := clamp.Window(c.slice, c.tick); got != c.wanted || ok != c.ok {
			t.Errorf("window of the slice %d and the tick %d: %d, %v, wanted %d, %v", c.slice, c.tick, got, ok, c.wanted, c.ok)
		}
	}
}

func TestP12_1Clamp(t *testing.T) {
	for _, lag := range lags() {
		for _, w := range windows() {
			if got := clamp.Clamp(lag, w); big.NewInt(got).Cmp(clamped(lag, w)) != 0 {
				t.Fatalf("%s within %d: %d, wanted %v", lag, w, got, clamped(lag, w))
			}
		}
	}
}

func TestP12_1ClampEdges(t *testing.T) {
	for _, c := range []struct {
		what   string
		lag    wide.Int
		window int64
		wanted int64
	}{
		{"within", wide.Of(3), 5, 3},
		{"within, below 0", wide.Of(-3), 5, -3},
		{"none", wide.Of(0), 5, 0},
		{"at its end", wide.Of(5), 5, 5},
		{"at its beginning", wide.Of(-5), 5, -5},
		{"behind its end", wide.Of(6), 5, 5},
		{"ahead of its beginning", wide.Of(-6), 5, -5},
		{"far behind its end", wide.Of(9), 5, 5},
		{"far ahead of its beginning", wide.Of(-9), 5, -5},
		{"more than a window of 0", wide.Of(1), 0, 0},
		{"less than a window of 0", wide.Of(-1), 0, 0},
		{"just a window of 0", wide.Of(0), 0, 0},
		{"more than a window below 0", wide.Of(3), -1, 0},
		{"less than a window below 0", wide.Of(-3), -1, 0},
		{"a window below 0 itself", wide.Of(-1), -1, 0},
		{"of 0, and a window below 0", wide.Of(0), -7, 0},
		{"the least window", wide.Of(1), math.MinInt64, 0},
		{"the least window itself", wide.Of(math.MinInt64), math.MinInt64, 0},
		{"the greatest window", wide.Of(math.MaxInt64), math.MaxInt64, math.MaxInt64},
		{"the greatest window, and below 0", wide.Of(-math.MaxInt64), math.MaxInt64, -math.MaxInt64},
		{"less than it", wide.Of(math.MinInt64), math.MaxInt64, -math.MaxInt64},
		{"more than it", wide.OfU(1 << 63), math.MaxInt64, math.MaxInt64},
		{"of more than 64 bits, and few at last", wide.Int{Hi: 1, Lo: 3}, 5, 5},
		{"of more than 64 bits below 0, and few at last", wide.Int{Hi: -2, Lo: 3}, 5, -5},
		{"as 3 less 2^64", wide.Int{Hi: -1, Lo: 3}, 5, -5},
		{"as 2^64 less 3", wide.OfU(1<<64 - 3), 5, 5},
		{"the greatest wide number", greatest, 5, 5},
		{"the least wide number", least, 5, -5},
		{"the greatest wide number, and the greatest window", greatest, math.MaxInt64, math.MaxInt64},
		{"the least wide number, and the greatest window", least, math.MaxInt64, -math.MaxInt64},
		{"the greatest wide number, and a window of 0", greatest, 0, 0},
		{"the least wide number, and a window below 0", least, -5, 0},
		{"the greatest window that there is", wide.Of(3<<60 + 1), 3 << 60, 3 << 60},
		{"the greatest window that there is, below 0", wide.Of(-3<<60 - 1), 3 << 60, -3 << 60},
	} {
		if got := clamp.Clamp(c.lag, c.window); got != c.wanted {
			t.Errorf("%s: %s within %d: %d, wanted %d", c.what, c.lag, c.window, got, c.wanted)
		}
	}
}

func TestP12_2Size(t *testing.T) {
	for _, lag := range lags() {
		if got := clamp.Size(lag); got != size(lag) {
			t.Fatalf("size of %s: %s, wanted %s", lag, got, size(lag))
		}
	}
}

func TestP12_2SizeEdges(t *testing.T) {
	for _, c := range []struct{ lag, wanted wide.Int }{
		{wide.Of(0), wide.Of(0)},
		{wide.Of(4), wide.Of(4)},
		{wide.Of(-4), wide.Of(4)},
		{wide.Of(-1), wide.Of(1)},
		{wide.Of(math.MaxInt64), wide.Of(math.MaxInt64)},
		{wide.Of(math.MinInt64), wide.OfU(1 << 63)},
		{wide.OfU(math.MaxUint64), wide.OfU(math.MaxUint64)},
		{wide.Int{Hi: -1}, wide.Int{Hi: 1}},
		{wide.Int{Hi: -1, Lo: 1}, wide.OfU(math.MaxUint64)},
		{wide.Int{Hi: 7, Lo: 9}, wide.Int{Hi: 7, Lo: 9}},
		{greatest, greatest},
		{wide.Int{Hi: math.MinInt64, Lo: 1}, greatest},
		{wide.Int{Hi: math.MinInt64, Lo: 2}, wide.Int{Hi: math.MaxInt64, Lo: math.MaxUint64 - 1}},
		{least, greatest},
	} {
		if got := clamp.Size(c.lag); got != c.wanted {
			t.Errorf("size of %s: %s, wanted %s", c.lag, got, c.wanted)
		}
	}
}

func TestP12_2Carried(t *testing.T) {
	all := lags()
	for i, a := range all {
		if got := clamp.Carried(a); got != carried(all[i:i+1]) {
			t.Fatalf("carried of %s: %s, wanted %s", a, got, carried(all[i:i+1]))
		}
		for _, b := range all {
			if got := clamp.Carried(a, b); got != carried([]wide.Int{a, b}) {
				t.Fatalf("carried of %s and %s: %s, wanted %s", a, b, got, carried([]wide.Int{a, b}))
			}
		}
	}
	for n := range len(all) {
		if got := clamp.Carried(all[:n]...); got != carried(all[:n]) {
			t.Fatalf("carried of the first %d: %s, wanted %s", n, got, carried(all[:n]))
		}
		// From the midst on, too, where many are small.
		l := all[n/2 : len(all)-n/2]
		if got := clamp.Carried(l...); got != carried(l) {
			t.Fatalf("carried of the middle %d: %s, wanted %s", len(l), got, carried(l))
		}
	}
}

func TestP12_2CarriedEdges(t *testing.T) {
	// below is so much below the greatest wide number.
	below := func(n uint64) wide.Int { return wide.Int{Hi: math.MaxInt64, Lo: math.MaxUint64 - n} }
	under := func(n uint64) wide.Int { return wide.Int{Hi: math.MinInt64, Lo: n + 1} }
	for _, c := range []struct {
		what   string
		lags   []wide.Int
		wanted wide.Int
	}{
		{"of none", nil, wide.Of(0)},
		{"of an empty list", []wide.Int{}, wide.Of(0)},
		{"of -5 and 0", []wide.Int{wide.Of(-5), wide.Of(0)}, wide.Of(9)},
		{"of 0", []wide.Int{wide.Of(0)}, wide.Of(2)},
		{"of 7", []wide.Int{wide.Of(7)}, wide.Of(9)},
		{"of -7", []wide.Int{wide.Of(-7)}, wide.Of(9)},
		{"of some that are 0 together", []wide.Int{wide.Of(7), wide.Of(-7)}, wide.Of(18)},
		{"of a thousand", slices.Repeat([]wide.Int{wide.Of(-3)}, 1000), wide.Of(5000)},
		{"over 64 bits", []wide.Int{wide.OfU(math.MaxUint64), wide.Of(-1)}, wide.Int{Hi: 1, Lo: 4}},
		{"of the greatest one", []wide.Int{greatest}, greatest},
		{"of the least one", []wide.Int{least}, greatest},
		{"up to the greatest one", []wide.Int{below(2)}, greatest},
		{"a little less", []wide.Int{below(3)}, below(1)},
		{"by 1 too much", []wide.Int{below(1)}, greatest},
		{"below 0, up to the greatest one", []wide.Int{under(2)}, greatest},
		{"below 0, a little less", []wide.Int{under(3)}, below(1)},
		{"below 0, by 1 too much", []wide.Int{under(1)}, greatest},
		{"of two, up to the greatest one", []wide.Int{below(9), wide.Of(-5)}, greatest},
		{"of two, a little less", []wide.Int{below(9), wide.Of(-4)}, below(1)},
		{"of two, by 1 too much", []wide.Int{below(9), wide.Of(-6)}, greatest},
		{"of two, the second one's size alone too much", []wide.Int{below(5), wide.Of(-9)}, greatest},
		{"of two, the second one's 2 alone too much", []wide.Int{below(2), wide.Of(0)}, greatest},
		{"too much, and more behind it", []wide.Int{greatest, wide.Of(5), least, wide.Of(0)}, greatest},
		{"two halves", []wide.Int{{Hi: 1 << 62}, {Hi: -1 << 62}}, greatest},
		{"two halves, less 4", []wide.Int{{Hi: 1<<62 - 1, Lo: math.MaxUint64 - 3}, {Hi: -1 << 62}}, greatest},
		{"two halves, less 5", []wide.Int{{Hi: 1<<62 - 1, Lo: math.MaxUint64 - 4}, {Hi: -1 << 62}}, greatest},
		{"two halves, less 6", []wide.Int{{Hi: 1<<62 - 1, Lo: math.MaxUint64 - 5}, {Hi: -1 << 62}}, below(1)},
		{"many that are twice too much", slices.Repeat([]wide.Int{{Hi: 1 << 62}}, 4), greatest},
		{"many that would go round", slices.Repeat([]wide.Int{{Hi: 1 << 60}}, 33), greatest},
	} {
		if got := clamp.Carried(c.lags...); got != c.wanted || got != carried(c.lags) {
			t.Errorf("%s: %s, wanted %s", c.what, got, c.wanted)
		}
	}
}

func TestP12_2CarriedHangsOnNoOrder(t *testing.T) {
	all := lags()
	for n := range 40 {
		l := slices.Clone(all[len(all)/2-n : len(all)/2+n])
		wanted := clamp.Carried(l...)
		for i := range l {
			if got := clamp.Carried(slices.Concat(l[i:], l[:i])...); got != wanted {
				t.Fatalf("turned by %d: %s, unturned %s", i, got, wanted)
			}
		}
		slices.Reverse(l)
		if got := clamp.Carried(l...); got != wanted {
			t.Fatalf("reversed: %s, unreversed %s", got, wanted)
		}
		// What was carried of some, and of others, is what is carried of all.
		some, _ := wide.Sum(clamp.Carried(l[:n/2]...), clamp.Carried(l[n/2:]...))
		if wanted != greatest && some != wanted {
			t.Fatalf("in two parts: %s, at once %s", some, wanted)
		}
	}
}

func TestP12_2CarriedLeavesItsLagsAlone(t *testing.T) {
	all := lags()
	were := slices.Clone(all)
	clamp.Carried(all[10:20]...)
	if !slices.Equal(all, were) {
		t.Error("its lags, or those beside them, were changed")
	}
}

func TestP12_3ClampedIsClamped(t *testing.T) {
	for _, lag := range lags() {
		for _, w := range windows() {
			once := clamp.Clamp(lag, w)
			if twice := clamp.Clamp(wide.Of(once), w); twice != once {
				t.Fatalf("%s within %d: %d, and %d then", lag, w, once, twice)
			}
			for _, greater := range windows() {
				if wider := clamp.Clamp(wide.Of(once), greater); greater >= w && wider != once {
					t.Fatalf("%s within %d: %d, and within %d %d", lag, w, once, greater, wider)
				}
			}
			if limit := max(w, 0); once < -limit || once > limit {
				t.Fatalf("%s within %d: %d", lag, w, once)
			}
		}
	}
}

func TestP12_3TheOrderStays(t *testing.T) {
	all := lags()
	for _, w := range windows() {
		for i := 1; i < len(all); i++ {
			before, behind := clamp.Clamp(all[i-1], w), clamp.Clamp(all[i], w)
			if before > behind {
				t.Fatalf("within %d %s is %d, but %s is %d", w, all[i-1], before, all[i], behind)
			}
		}
	}
}

func TestP12_3OfAWindow(t *testing.T) {
	for _, slice := range spans() {
		for _, tick := range spans() {
			w, ok := clamp.Window(slice, tick)
			if !ok {
				continue
			}
			far := wide.Of(w)
			for _, c := range []struct {
				more   int64
				wanted int64
			}{{-1, w - 1}, {0, w}, {1, w}, {math.MaxInt64, w}} {
				lag, _ := far.Add(wide.Of(c.more))
				below, _ := lag.Neg()
				if high, low := clamp.Clamp(lag, w), clamp.Clamp(below, w); high != c.wanted || low != -c.wanted {
					t.Fatalf("%s and %s within %d: %d, %d", lag, below, w, high, low)
				}
			}
		}
	}
}
