package place_test

import (
	"math"
	"math/big"
	"testing"

	"turnstone/lag"
	"turnstone/mean"
	"turnstone/place"
	"turnstone/pos"
	"turnstone/vtime"
	"turnstone/wide"
)

const (
	end      = vtime.Time(math.MaxUint64)
	half     = vtime.Time(1 << 63)
	mostW    = 1 << 20
	mostN    = 32
	mostWord = math.MaxUint32
)

var (
	least    = wide.Int{Hi: math.MinInt64}
	greatest = wide.Int{Hi: math.MaxInt64, Lo: math.MaxUint64}
)

func times() []vtime.Time {
	return []vtime.Time{0, 1, 5, 1 << 40, 1 << 62, half - 1, half, half + 1, 3 << 62, end - 4, end, 88172645463325252}
}

func weights() []uint32 { return []uint32{1, 2, 3, 7, 1024, 1<<20 - 1, mostW} }

// wrongWeights: of these no position may be.
func wrongWeights() []uint32 { return []uint32{0, mostW + 1, 1 << 21, 1 << 31, mostWord} }

// lags of all kinds, the edges of 64 bits among them.
func lags() []int64 {
	return []int64{0, 1, -1, 2, -2, 1000003, -1000003, 1 << 40, -1 << 40, 1<<60 + 7, -1<<60 - 7, math.MaxInt64 - 1, math.MaxInt64, math.MinInt64 + 1, math.MinInt64}
}

func number(x uint64) *big.Int { return new(big.Int).SetUint64(x) }

func value(a wide.Int) *big.Int {
	v := new(big.Int).Lsh(big.NewInt(a.Hi), 64)
	return v.Add(v, number(a.Lo))
}

// ofNumber is the wide number that is so great, if there is one.
func ofNumber(v *big.Int) (wide.Int, bool) {
	if v.Cmp(value(least)) < 0 || v.Cmp(value(greatest)) > 0 {
		return wide.Int{}, false
	}
	hi, lo := new(big.Int).DivMod(v, new(big.Int).Lsh(big.NewInt(1), 64), new(big.Int))
	return wide.Int{Hi: hi.Int64(), Lo: lo.Uint64()}, true
}

func isWide(v *big.Int) bool {
	_, ok := ofNumber(v)
	return ok
}

// modulo is the time that a number is modulo 2^64.
func modulo(v *big.Int) vtime.Time {
	return vtime.Time(new(big.Int).Mod(v, new(big.Int).Lsh(big.NewInt(1), 64)).Uint64())
}

// layer4 is what the document says of At, by numbers without bounds.
func layer4(base vtime.Time, far *big.Int, w uint32) (pos.Pos, bool) {
	// Of a divisor above 0 DivMod rounds down.
	q, left := new(big.Int).DivMod(far, number(uint64(w)), new(big.Int))
	if !q.IsInt64() {
		return pos.Pos{}, false
	}
	return pos.Pos{Time: modulo(q.Add(q, number(uint64(base)))), R: uint32(left.Uint64()), W: w}, true
}

// mayBe is what layer 8 says of a mean.
func mayBe(m mean.Mean) bool {
	if m.N >= 1 && m.N <= mostN {
		return m.W >= uint64(m.N) && m.W <= uint64(m.N)*mostW
	}
	return m.N == 0 && m.W == 0 && m.A == wide.Int{}
}

// comesIn is what the document says of Place, by numbers without bounds.
func comesIn(m mean.Mean, clock vtime.Time, w uint32, lag int64) (pos.Pos, bool) {
	if !mayBe(m) || w < 1 || w > mostW {
		return pos.Pos{}, false
	}
	if m.N == 0 {
		return pos.Pos{Time: clock, W: w}, true
	}
	share := new(big.Int).Mul(value(m.A), number(uint64(w)))
	all := new(big.Int).Add(number(m.W), number(uint64(w)))
	owed := all.Mul(all, big.NewInt(lag))
	far := new(big.Int).Sub(share, owed)
	if !isWide(share) || !isWide(owed) || !isWide(far) {
		return pos.Pos{}, false
	}
	return layer4(m.Base, far.Div(far, number(m.W)), w)
}

// check holds what Place answers against what the document says.
func check(t *testing.T, m mean.Mean, clock vtime.Time, w uint32, lag int64) (pos.Pos, bool) {
	t.Helper()
	got, ok := place.Place(m, clock, w, lag)
	if wanted, is := comesIn(m, clock, w, lag); got != wanted || ok != is {
		t.Fatalf("of weight %d, that is owed %d, in %+v at %d: %+v, %v, wanted %+v, %v", w, lag, m, clock, got, ok, wanted, is)
	}
	return got, ok
}

func at(t vtime.Time, r, w uint32) pos.Pos { return pos.Pos{Time: t, R: r, W: w} }

// near: so many positions that may be, no two further than 2^61 from one another, around that time; without a pattern, but always the same.
func near(n int, around vtime.Time) []pos.Pos {
	x := uint64(n)*2 + 88172645463325253
	next := func() uint64 {
		x ^= x << 13
		x ^= x >> 7
		x ^= x << 17
		return x
	}
	var l []pos.Pos
	for range n {
		w := uint32(1) << (next() >> 8 % 21)
		w -= uint32(next()>>8) % w / 2
		// Some lie a little from one another, and some far.
		offset := vtime.Time(next()>>(4+next()%50)) - 1<<59
		l = append(l, at(around+offset, uint32(next()>>8)%w, w))
	}
	return l
}

// mustOf is the mean of some positions.
func mustOf(t *testing.T, base vtime.Time, l []pos.Pos) mean.Mean {
	t.Helper()
	m, ok := mean.Of(base, l...)
	if !ok {
		t.Fatalf("there is no mean of %+v", l)
	}
	return m
}

func TestP10_1WhereNobodyIs(t *testing.T) {
	for _, base := range times() {
		for _, clock := range times() {
			for _, w := range weights() {
				for _, lag := range lags() {
					got, ok := place.Place(mean.Mean{Base: base}, clock, w, lag)
					if got != at(clock, 0, w) || !ok {
						t.Fatalf("of weight %d, that is owed %d, alone at %d: %+v, %v", w, lag, clock, got, ok)
					}
				}
			}
		}
	}
}

func TestP10_1WhereOthersAre(t *testing.T) {
	for n := 1; n <= mostN; n++ {
		for i, u := range times() {
			for _, base := range []vtime.Time{u, u + 1<<61, u - 1<<61, times()[(i+n)%len(times())]} {
				m := mustOf(t, base, near(n, u))
				for _, w := range weights() {
					for _, lag := range lags() {
						check(t, m, times()[n%len(times())], w, lag)
					}
				}
			}
		}
	}
}

func TestP10_1Edges(t *testing.T) {
	one := mean.Mean{A: wide.Of(10), W: 1, N: 1}
	two := mean.Mean{Base: 5, A: wide.Of(3), W: 2, N: 2}
	for _, c := range []struct {
		what   string
		m      mean.Mean
		w      uint32
		lag    int64
		wanted pos.Pos
		ok     bool
	}{
		{"owed 2", one, 1, 2, at(6, 0, 1), true},
		{"owed nothing", one, 1, 0, at(10, 0, 1), true},
		{"owing 2", one, 1, -2, at(14, 0, 1), true},
		{"of thrice the weight", one, 3, 2, at(7, 1, 3), true},
		{"over the end", one, 1, 6, at(end-1, 0, 1), true},
		{"rounded down, owed nothing", two, 1, 0, at(6, 0, 1), true},
		{"of twice the weight nothing is rounded", two, 2, 0, at(6, 1, 2), true},
		{"at the base", two, 1, 1, at(5, 0, 1), true},
		{"rounded down, ahead of the base", two, 1, 2, at(3, 0, 1), true},
		{"owing 1", two, 1, -1, at(8, 0, 1), true},
		{"rounded down, owing 2", two, 1, -2, at(9, 0, 1), true},
		{"of twice the weight, owed 3", two, 2, 3, at(3, 1, 2), true},
		{"of the greatest weight, to 31 of more than may be", mean.Mean{Base: 9, W: mostN * mostW, N: mostN - 1}, mostW, 32, pos.Pos{}, false},
		{"of the greatest weight, to 32 of it", mean.Mean{Base: 9, W: mostN * mostW, N: mostN}, mostW, 32, at(8, mostW-33, mostW), true},
		{"of the least weight, to 32 of it", mean.Mean{Base: 9, W: mostN, N: mostN}, 1, 32, at(end-23, 0, 1), true},
		{"of the greatest weight, to one of the least", mean.Mean{Base: 9, W: 1, N: 1}, mostW, 1, at(7, mostW-1, mostW), true},
		{"as far behind as may be", mean.Mean{Base: 1, A: wide.Of(math.MaxInt64), W: 1, N: 1}, 1, 0, at(half, 0, 1), true},
		{"further", mean.Mean{Base: 1, A: wide.OfU(1 << 63), W: 1, N: 1}, 1, 0, pos.Pos{}, false},
		{"as far ahead as may be", mean.Mean{Base: 1, A: wide.Of(math.MinInt64), W: 1, N: 1}, 1, 0, at(half+1, 0, 1), true},
		{"further ahead", mean.Mean{Base: 1, A: wide.Int{Hi: -1, Lo: 1<<63 - 1}, W: 1, N: 1}, 1, 0, pos.Pos{}, false},
		{"the greatest lag, as far ahead as may be", mean.Mean{Base: 1, A: wide.Of(math.MaxInt64 - 1), W: 1, N: 1}, 1, math.MaxInt64, at(half+1, 0, 1), true},
		{"the greatest lag, further ahead", mean.Mean{Base: 1, A: wide.Of(math.MaxInt64 - 2), W: 1, N: 1}, 1, math.MaxInt64, pos.Pos{}, false},
		{"the least lag, as far behind as may be", mean.Mean{Base: 1, A: wide.Int{Hi: -1, Lo: 1<<63 - 1}, W: 1, N: 1}, 1, math.MinInt64, at(half, 0, 1), true},
		{"the least lag, further behind", mean.Mean{Base: 1, A: wide.Of(math.MinInt64), W: 1, N: 1}, 1, math.MinInt64, pos.Pos{}, false},
		{"the greatest lag of the greatest weight", mean.Mean{Base: 1, W: mostW, N: 1}, mostW, math.MaxInt64, at(end-1<<44+2, 2, mostW), true},
		{"the least lag of the greatest weight", mean.Mean{Base: 1, W: mostW, N: 1}, mostW, math.MinInt64, at(1+1<<44, 0, mostW), true},
		{"the greatest A", mean.Mean{A: greatest, W: 1, N: 1}, 1, 0, pos.Pos{}, false},
		{"the greatest A, of all weights", mean.Mean{A: greatest, W: mostN * mostW, N: mostN}, 1, 0, pos.Pos{}, false},
		{"a product that is too great", mean.Mean{A: greatest, W: mostN * mostW, N: mostN}, 2, 0, pos.Pos{}, false},
		{"a product that is too small", mean.Mean{A: least, W: mostN * mostW, N: mostN}, 2, 0, pos.Pos{}, false},
		{"a product just too great", mean.Mean{A: wide.Int{Hi: 1 << 62}, W: mostN * mostW, N: mostN}, 2, 0, pos.Pos{}, false},
		{"a product just too small", mean.Mean{A: wide.Int{Hi: -1<<62 - 1, Lo: math.MaxUint64}, W: mostN * mostW, N: mostN}, 2, 0, pos.Pos{}, false},
		{"a product far too great", mean.Mean{A: wide.Int{Hi: 1 << 44}, W: 1, N: 1}, mostW, 0, pos.Pos{}, false},
		{"a difference that is too great", mean.Mean{A: greatest, W: 1, N: 1}, 1, -1, pos.Pos{}, false},
		{"a difference that is too great, of the least lag", mean.Mean{A: greatest, W: mostN * mostW, N: mostN}, 1, math.MinInt64, pos.Pos{}, false},
		{"a difference that is too small", mean.Mean{A: least, W: 1, N: 1}, 1, 1, pos.Pos{}, false},
		{"a difference that is too small, of the greatest lag", mean.Mean{A: least, W: mostN * mostW, N: mostN}, 1, math.MaxInt64, pos.Pos{}, false},
	} {
		got, ok := check(t, c.m, 77, c.w, c.lag)
		if got != c.wanted || ok != c.ok {
			t.Errorf("%s: %+v, %v, wanted %+v, %v", c.what, got, ok, c.wanted, c.ok)
		}
	}
}

func TestP10_1AtsBounds(t *testing.T) {
	// Around the least and the greatest whole number that At can tell, for each A, and lag.
	for _, c := range []struct {
		n int
		w uint64
	}{{1, 1}, {1, 3}, {2, 7}, {1, mostW}, {mostN, mostN}, {mostN, mostN*mostW - 1}, {mostN, mostN * mostW}} {
		for _, w := range weights() {
			for _, lag := range lags() {
				all := new(big.Int).Mul(number(c.w+uint64(w)), big.NewInt(lag))
				for _, whole := range []int64{math.MinInt64, -1, 0, 1, math.MaxInt64} {
					// w times A, less what is owed, is W(m) times w times this whole number, and a little.
					far := new(big.Int).Mul(number(c.w*uint64(w)), big.NewInt(whole))
					far.Div(far.Add(far, all), number(uint64(w)))
					for more := -int64(c.w) - 1; more <= int64(c.w)+1; more += max(1, int64(c.w)-1) {
						for _, base := range []vtime.Time{0, 9, half, end} {
							a, ok := ofNumber(new(big.Int).Add(far, big.NewInt(more)))
							if !ok {
								t.Fatalf("%v is no wide number", far)
							}
							check(t, mean.Mean{Base: base, A: a, W: c.w, N: c.n}, 77, w, lag)
						}
					}
				}
			}
		}
	}
}

func TestP10_1Wrong(t *testing.T) {
	for _, m := range []mean.Mean{
		{A: wide.Of(1)}, {A: least}, {W: 1}, {W: math.MaxUint64}, {A: wide.Of(-3), W: 2}, {N: 1}, {A: wide.Of(7), N: 1},
		{W: mostW + 1, N: 1}, {W: 1, N: 2}, {W: 2*mostW + 1, N: 2}, {W: mostN - 1, N: mostN}, {W: mostN*mostW + 1, N: mostN},
		{W: mostN + 1, N: mostN + 1}, {W: mostN * mostW, N: mostN + 1}, {W: math.MaxUint64, N: 1}, {W: 1 << 63, N: 1},
		{N: -1}, {W: 1, N: -1}, {W: math.MaxUint64, N: -1}, {W: 1 << 63, N: math.MinInt}, {W: math.MaxInt, N: math.MaxInt},
	} {
		for _, w := range append(weights(), wrongWeights()...) {
			for _, lag := range lags() {
				if got, ok := check(t, m, 7, w, lag); ok {
					t.Fatalf("in %+v, that may not be: %+v", m, got)
				}
			}
		}
	}
	for n := range mostN + 1 {
		m := mustOf(t, 5, near(n, 9))
		for _, w := range wrongWeights() {
			for _, lag := range lags() {
				if got, ok := check(t, m, 7, w, lag); ok {
					t.Fatalf("of weight %d, that may not be, in %+v: %+v", w, m, got)
				}
			}
		}
	}
}

func TestP10_1NoClockWhereOthersAre(t *testing.T) {
	for n := 1; n <= mostN; n++ {
		m := mustOf(t, 3, near(n, end))
		wanted, ok := place.Place(m, 0, 7, 1000003)
		for _, clock := range times() {
			if got, is := place.Place(m, clock, 7, 1000003); got != wanted || is != ok {
				t.Fatalf("at %d: %+v, %v, at 0: %+v, %v", clock, got, is, wanted, ok)
			}
		}
	}
}

func TestP10_1NoBaseAndNoOrigin(t *testing.T) {
	for n := range mostN + 1 {
		for _, u := range times() {
			m := mustOf(t, u, near(n, u))
			for _, by := range []vtime.Time{1, end, 1 << 61, end - 1<<61 + 1, half, 12345678901234567} {
				for _, lag := range []int64{0, 1, -1, 1 << 60, -1 << 60} {
					wanted, ok := place.Place(m, u+9, 7, lag)
					shifted := m
					shifted.Base += by
					if got, is := place.Place(shifted, u+9+by, 7, lag); got != wanted.Shift(by) || !ok || !is {
						t.Fatalf("shifted by %d: %+v, %v, unshifted %+v, %v", by, got, is, wanted, ok)
					}
					if by == half || n == 0 {
						continue
					}
					// A distance that is rounded down is so from each base, as all bases are whole times.
					from, _ := m.Rebase(u + by)
					if got, is := place.Place(from, u+9, 7, lag); got != wanted || !is {
						t.Fatalf("from %d: %+v, %v, from %d: %+v", u+by, got, is, u, wanted)
					}
				}
			}
		}
	}
}

// moved is how much further behind its base the virtual time of a mean is than that of another one.
func moved(from, to mean.Mean) *big.Rat {
	then := new(big.Rat).SetFrac(value(to.A), number(to.W))
	return then.Sub(then, new(big.Rat).SetFrac(value(from.A), number(from.W)))
}

// comesInJustSo: put in where Place tells, a task has that lag, and the virtual time is moved as little as is promised; false, where Place tells nothing.
func comesInJustSo(t *testing.T, m mean.Mean, w uint32, owed int64) bool {
	t.Helper()
	p, ok := place.Place(m, 77, w, owed)
	if !ok {
		return false
	}
	with, ok := m.Add(p)
	if !ok {
		t.Fatalf("%+v can't be put into %+v", p, m)
	}
	if got, ok := lag.Read(with, p); got != wide.Of(owed) || !ok {
		t.Fatalf("%+v, in %+v then, is owed %s, %v, not %d", p, with, got, ok, owed)
	}
	// So many grains it is moved, times W(m), to the other side: the lag, or less than one more.
	grains := moved(with, m)
	grains.Mul(grains, new(big.Rat).SetInt(number(m.W)))
	more := grains.Sub(grains, new(big.Rat).SetInt64(owed))
	if more.Sign() < 0 || more.Cmp(big.NewRat(1, 1)) >= 0 {
		t.Fatalf("%+v, of the lag %d, moves %+v by %v of a grain more than that", p, owed, m, more)
	}
	return true
}

func TestP10_2JustThatLag(t *testing.T) {
	told, all := 0, 0
	for n := 1; n < mostN; n++ {
		for _, u := range times() {
			for _, by := range []vtime.Time{0, 1 << 61, end - 1<<61 + 1} {
				m := mustOf(t, u+by, near(n, u))
				for _, w := range weights() {
					for _, owed := range lags() {
						all++
						if comesInJustSo(t, m, w, owed) {
							told++
						}
					}
				}
			}
		}
	}
	if told < all/2 {
		t.Errorf("of %d only %d came in", all, told)
	}
}

func TestP10_2ThoseWhoMayComeIn(t *testing.T) {
	// Of lags that aren't far none is refused, and each one after the other comes in.
	for _, w := range weights() {
		for _, owed := range []int64{0, 1, -1, 2, -2, 1000003, -1000003, 1 << 40, -1 << 40} {
			for _, clock := range times() {
				p, ok := place.Place(mean.Mean{}, clock, w, owed)
				if !ok {
					t.Fatalf("of weight %d nobody comes in at %d", w, clock)
				}
				m := mustOf(t, clock-5, []pos.Pos{p})
				for m.N < mostN {
					if !comesInJustSo(t, m, w, owed) {
						t.Fatalf("of weight %d, and the lag %d, nobody comes into %+v", w, owed, m)
					}
					p, _ := place.Place(m, 0, w, owed)
					m, _ = m.Add(p)
				}
				check(t, m, 77, w, owed)
			}
		}
	}
}
