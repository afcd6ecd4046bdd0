package mean_test

import (
	"math"
	"math/big"
	"slices"
	"testing"

	"turnstone/mean"
	"turnstone/pos"
	"turnstone/vtime"
	"turnstone/wide"
)

const (
	end      = vtime.Time(math.MaxUint64)
	half     = vtime.Time(1 << 63)
	mostW    = 1 << 20
	mostN    = 32
	mostWord = math.MaxUint32
)

var (
	least    = wide.Int{Hi: math.MinInt64}
	greatest = wide.Int{Hi: math.MaxInt64, Lo: math.MaxUint64}
)

func times() []vtime.Time {
	return []vtime.Time{0, 1, 5, 1 << 40, 1 << 62, half - 1, half, half + 1, 3 << 62, end - 4, end, 88172645463325252}
}

func number(x uint64) *big.Int { return new(big.Int).SetUint64(x) }

func value(a wide.Int) *big.Int {
	v := new(big.Int).Lsh(big.NewInt(a.Hi), 64)
	return v.Add(v, number(a.Lo))
}

// ofNumber is the wide number that is so great, if there is one.
func ofNumber(v *big.Int) (wide.Int, bool) {
	if v.Cmp(value(least)) < 0 || v.Cmp(value(greatest)) > 0 {
		return wide.Int{}, false
	}
	hi, lo := new(big.Int).DivMod(v, new(big.Int).Lsh(big.NewInt(1), 64), new(big.Int))
	return wide.Int{Hi: hi.Int64(), Lo: lo.Uint64()}, true
}

func mustWide(t *testing.T, v *big.Int) wide.Int {
	t.Helper()
	a, ok := ofNumber(v)
	if !ok {
		t.Fatalf("%v is no wide number", v)
	}
	return a
}

// modulo is the time that a number is modulo 2^64.
func modulo(v *big.Int) vtime.Time {
	return vtime.Time(new(big.Int).Mod(v, new(big.Int).Lsh(big.NewInt(1), 64)).Uint64())
}

// difference of two times, by numbers without bounds.
func difference(t, u vtime.Time) *big.Int {
	d := new(big.Int).Sub(number(uint64(t)), number(uint64(u)))
	round := new(big.Int).Lsh(big.NewInt(1), 64)
	if !d.IsInt64() && d.Sign() > 0 {
		d.Sub(d, round)
	}
	if !d.IsInt64() {
		d.Add(d, round)
	}
	return d
}

// distance is what layer 4 says of one, by numbers without bounds.
func distance(p pos.Pos, base vtime.Time) *big.Int {
	d := difference(p.Time, base)
	d.Mul(d, number(uint64(p.W)))
	return d.Add(d, number(uint64(p.R)))
}

func mayBePos(p pos.Pos) bool { return p.W >= 1 && p.W <= mostW && p.R < p.W }

// mayBe is what the document says of a mean, by numbers without bounds.
func mayBe(m mean.Mean) bool {
	n, w := big.NewInt(int64(m.N)), number(m.W)
	if m.N >= 1 && m.N <= mostN {
		return w.Cmp(n) >= 0 && w.Cmp(new(big.Int).Mul(n, big.NewInt(mostW))) <= 0
	}
	return m.N == 0 && w.Sign() == 0 && value(m.A).Sign() == 0
}

// ofParts is what the document says of these positions' mean, by numbers without bounds.
func ofParts(t *testing.T, base vtime.Time, l []pos.Pos) mean.Mean {
	t.Helper()
	far, w := new(big.Int), uint64(0)
	for _, p := range l {
		far.Add(far, distance(p, base))
		w += uint64(p.W)
	}
	return mean.Mean{Base: base, A: mustWide(t, far), W: w, N: len(l)}
}

// floor is what the document says of Floor, by numbers without bounds.
func floor(m mean.Mean) (vtime.Time, bool) {
	if !mayBe(m) || m.N == 0 {
		return 0, false
	}
	// Of a divisor above 0 Div rounds down.
	q := new(big.Int).Div(value(m.A), number(m.W))
	if !q.IsInt64() {
		return 0, false
	}
	return modulo(q.Add(q, number(uint64(m.Base)))), true
}

func at(t vtime.Time, r, w uint32) pos.Pos { return pos.Pos{Time: t, R: r, W: w} }

// positions that may be, at all times, of all kinds of weight.
func positions() []pos.Pos {
	var l []pos.Pos
	for i, u := range times() {
		for j, w := range []uint32{1, 2, 3, 7, 1 << 10, 1<<20 - 1, mostW} {
			l = append(l, at(u, uint32(i+j)*(w/3)%w, w), at(u, w-1, w))
		}
	}
	return l
}

// wrongPositions may not be.
func wrongPositions() []pos.Pos {
	return []pos.Pos{{}, at(5, 0, 0), at(5, 1, 0), at(5, 1, 1), at(5, 3, 3), at(5, mostW, mostW), at(5, 0, mostW+1), at(5, 0, mostWord), at(5, mostWord, mostWord), at(5, mostWord, 1)}
}

// near: so many positions that may be, no two further than 2^61 from one another, around that time; without a pattern, but always the same.
func near(n int, around vtime.Time) []pos.Pos {
	x := uint64(n)*2 + 88172645463325253
	next := func() uint64 {
		x ^= x << 13
		x ^= x >> 7
		x ^= x << 17
		return x
	}
	var l []pos.Pos
	for range n {
		w := uint32(1) << (next() >> 8 % 21)
		w -= uint32(next()>>8) % w / 2
		// Some lie a little from one another, and some far.
		offset := vtime.Time(next()>>(4+next()%50)) - 1<<59
		l = append(l, at(around+offset, uint32(next()>>8)%w, w))
	}
	return l
}

// check: the answer is the mean that is wanted, or the zero Mean and false.
func check(t *testing.T, what string, got mean.Mean, ok bool, wanted mean.Mean, is bool) {
	t.Helper()
	if !is {
		wanted = mean.Mean{}
	}
	if got != wanted || ok != is {
		t.Fatalf("%s: %+v, %v, wanted %+v, %v", what, got, ok, wanted, is)
	}
}

func TestP8_1Right(t *testing.T) {
	for _, c := range []struct {
		what  string
		m     mean.Mean
		right bool
	}{
		{"the zero one", mean.Mean{}, true},
		{"of none, from a base", mean.Mean{Base: end}, true},
		{"of none, and A", mean.Mean{A: wide.Of(1)}, false},
		{"of none, and A below 0", mean.Mean{A: wide.Of(-1)}, false},
		{"of none, and a far A", mean.Mean{A: wide.Int{Hi: 1}}, false},
		{"of none, and W", mean.Mean{W: 1}, false},
		{"of none, and the greatest W", mean.Mean{W: math.MaxUint64}, false},
		{"of one, of the least weight", mean.Mean{W: 1, N: 1}, true},
		{"of one, of the greatest weight", mean.Mean{Base: 9, A: wide.Of(-7), W: mostW, N: 1}, true},
		{"of one, of weight 0", mean.Mean{N: 1}, false},
		{"of one, of too great a weight", mean.Mean{W: mostW + 1, N: 1}, false},
		{"of two, of too small a weight", mean.Mean{W: 1, N: 2}, false},
		{"of two, of the least weight", mean.Mean{W: 2, N: 2}, true},
		{"of two, of the greatest weight", mean.Mean{W: 2 * mostW, N: 2}, true},
		{"of two, of too great a weight", mean.Mean{W: 2*mostW + 1, N: 2}, false},
		{"of 32, of too small a weight", mean.Mean{W: 31, N: 32}, false},
		{"of 32, of the least weight", mean.Mean{W: 32, N: 32}, true},
		{"of 32, of the greatest weight", mean.Mean{W: 32 * mostW, N: 32}, true},
		{"of 32, of too great a weight", mean.Mean{W: 32*mostW + 1, N: 32}, false},
		{"of 33", mean.Mean{W: 33, N: 33}, false},
		{"of 33, of the weight of 32", mean.Mean{W: 32 * mostW, N: 33}, false},
		{"of below none", mean.Mean{N: -1}, false},
		{"of below none, and W", mean.Mean{W: 1, N: -1}, false},
		{"of below none, and a W that goes round", mean.Mean{W: math.MaxUint64, N: -1}, false},
		{"of below none, and all bounds go round", mean.Mean{W: math.MaxUint64 - 1<<44, N: -1<<44 - 1}, false},
		{"of the least N", mean.Mean{W: 1 << 63, N: math.MinInt}, false},
		{"of the greatest N", mean.Mean{W: math.MaxInt, N: math.MaxInt}, false},
		{"of one, and the least A", mean.Mean{A: least, W: 1, N: 1}, true},
		{"of one, and the greatest A", mean.Mean{A: greatest, W: 1, N: 1}, true},
	} {
		if got := c.m.Right(); got != c.right || got != mayBe(c.m) {
			t.Errorf("%s: %+v right: %v", c.what, c.m, got)
		}
	}
	for n := -2; n <= mostN+2; n++ {
		for _, w := range []int{n - 1, n, n + 1, n*mostW - 1, n * mostW, n*mostW + 1, 0, 1} {
			for _, a := range []wide.Int{{}, wide.Of(-1), {Hi: 1}, least, greatest} {
				m := mean.Mean{Base: 3, A: a, W: uint64(w), N: n}
				if got := m.Right(); got != mayBe(m) {
					t.Errorf("%+v right: %v", m, got)
				}
			}
		}
	}
}

func TestP8_1Of(t *testing.T) {
	l := positions()
	for i := range l {
		for n := range mostN + 1 {
			var parts []pos.Pos
			for k := range n {
				parts = append(parts, l[(i+k*(i%5+3))%len(l)])
			}
			base := times()[(i+n)%len(times())]
			got, ok := mean.Of(base, parts...)
			check(t, "of", got, ok, ofParts(t, base, parts), true)
			if !got.Right() {
				t.Fatalf("%+v isn't right", got)
			}
		}
	}
}

func TestP8_1OfEdges(t *testing.T) {
	alike := func(p pos.Pos, n int) []pos.Pos { return slices.Repeat([]pos.Pos{p}, n) }
	for _, c := range []struct {
		what   string
		base   vtime.Time
		l      []pos.Pos
		a      string
		w      uint64
		wanted bool
	}{
		{"of none", 7, nil, "0", 0, true},
		{"of two", 5, []pos.Pos{at(5, 0, 1), at(8, 0, 1)}, "3", 2, true},
		{"of one at its base", 5, []pos.Pos{at(5, 0, 4)}, "0", 4, true},
		{"of one, and what is left", 5, []pos.Pos{at(5, 3, 4)}, "3", 4, true},
		{"of one ahead of its base", 5, []pos.Pos{at(4, 1, 4)}, "-3", 4, true},
		{"over the end", end, []pos.Pos{at(2, 1, 4), at(end-1, 0, 3)}, "10", 7, true},
		{"as far behind as may be", 0, alike(at(half-1, mostW-1, mostW), mostN), "309485009821345068724781024", mostN * mostW, true},
		{"as far ahead as may be", 0, alike(at(half, 0, mostW), mostN), "-309485009821345068724781056", mostN * mostW, true},
		{"of 32, of the least weight", 3, alike(at(4, 0, 1), mostN), "32", mostN, true},
		{"of 33", 3, alike(at(4, 0, 1), mostN+1), "", 0, false},
		{"of 64", 3, alike(at(4, 0, 1), 2*mostN), "", 0, false},
	} {
		got, ok := mean.Of(c.base, c.l...)
		if ok != c.wanted || ok && (got.Base != c.base || got.A.String() != c.a || got.W != c.w || got.N != len(c.l)) || !ok && got != (mean.Mean{}) {
			t.Errorf("%s: %+v, A %s, %v", c.what, got, got.A, ok)
		}
	}
}

func TestP8_1OfWrong(t *testing.T) {
	for _, wrong := range wrongPositions() {
		for n := range mostN {
			for _, place := range []int{0, n / 2, n} {
				parts := slices.Insert(near(n, 5), place, wrong)
				got, ok := mean.Of(9, parts...)
				check(t, "of one that may not be", got, ok, mean.Mean{}, false)
			}
		}
		got, ok := mean.Of(9, append(near(mostN, 5), wrong)...)
		check(t, "of too many, one of which may not be", got, ok, mean.Mean{}, false)
	}
}

func TestP8_1OfLeavesItsPartsAlone(t *testing.T) {
	all := near(20, end)
	were := slices.Clone(all)
	m, ok := mean.Of(3, all[:7]...)
	if !slices.Equal(all, were) {
		t.Error("its parts, or the spare room behind them, were changed")
	}
	clear(all)
	check(t, "of parts that were written over", m, ok, ofParts(t, 3, were[:7]), true)
}

func TestP8_1AddAndTake(t *testing.T) {
	l := positions()
	x := uint64(88172645463325252)
	for round, base := range slices.Repeat(times(), 40) {
		m, held := mean.Mean{Base: base}, []pos.Pos(nil)
		for range 100 {
			x ^= x << 13
			x ^= x >> 7
			x ^= x << 17
			var ok bool
			// By turns more come, and more leave.
			if x>>8%8 < uint64(2+round%5) {
				p := l[x>>16%uint64(len(l))]
				many := len(held) < mostN
				if many {
					held = append(held, p)
				}
				got, is := m.Add(p)
				check(t, "added", got, is, ofParts(t, base, held), many)
				if many {
					m = got
				}
				continue
			}
			if len(held) == 0 {
				got, is := m.Take(l[x>>16%uint64(len(l))])
				check(t, "none to take", got, is, mean.Mean{}, false)
				continue
			}
			which := int(x >> 16 % uint64(len(held)))
			p := held[which]
			held = slices.Delete(held, which, which+1)
			m, ok = m.Take(p)
			check(t, "taken", m, ok, ofParts(t, base, held), true)
		}
	}
}

func TestP8_1AddEdges(t *testing.T) {
	for _, c := range []struct {
		what   string
		m      mean.Mean
		p      pos.Pos
		wanted mean.Mean
		ok     bool
	}{
		{"to none", mean.Mean{Base: 5}, at(7, 1, 3), mean.Mean{Base: 5, A: wide.Of(7), W: 3, N: 1}, true},
		{"to the zero one", mean.Mean{}, at(end, 0, 3), mean.Mean{A: wide.Of(-3), W: 3, N: 1}, true},
		{"to one", mean.Mean{Base: 5, A: wide.Of(7), W: 3, N: 1}, at(4, 0, 2), mean.Mean{Base: 5, A: wide.Of(5), W: 5, N: 2}, true},
		{"the 32nd", mean.Mean{W: 31, N: 31}, at(0, 0, 1), mean.Mean{W: 32, N: 32}, true},
		{"the 32nd, of the greatest weight", mean.Mean{W: 31 * mostW, N: 31}, at(0, 0, mostW), mean.Mean{W: 32 * mostW, N: 32}, true},
		{"the 33rd", mean.Mean{W: 32, N: 32}, at(0, 0, 1), mean.Mean{}, false},
		{"up to the greatest A", mean.Mean{A: wide.Int{Hi: math.MaxInt64, Lo: math.MaxUint64 - 3}, W: 1, N: 1}, at(3, 0, 1), mean.Mean{A: greatest, W: 2, N: 2}, true},
		{"above the greatest A", mean.Mean{A: wide.Int{Hi: math.MaxInt64, Lo: math.MaxUint64 - 3}, W: 1, N: 1}, at(4, 0, 1), mean.Mean{}, false},
		{"above it by what is left", mean.Mean{A: wide.Int{Hi: math.MaxInt64, Lo: math.MaxUint64 - 6}, W: 1, N: 1}, at(3, 1, 2), mean.Mean{}, false},
		{"nothing to the greatest A", mean.Mean{A: greatest, W: 1, N: 1}, at(0, 0, 1), mean.Mean{A: greatest, W: 2, N: 2}, true},
		{"something to the greatest A", mean.Mean{A: greatest, W: 1, N: 1}, at(1, 0, 1), mean.Mean{}, false},
		{"down from the greatest A", mean.Mean{A: greatest, W: 1, N: 1}, at(end, 0, 1), mean.Mean{A: wide.Int{Hi: math.MaxInt64, Lo: math.MaxUint64 - 1}, W: 2, N: 2}, true},
		{"down to the least A", mean.Mean{A: wide.Int{Hi: math.MinInt64, Lo: 3}, W: 1, N: 1}, at(end-2, 0, 1), mean.Mean{A: least, W: 2, N: 2}, true},
		{"below the least A", mean.Mean{A: wide.Int{Hi: math.MinInt64, Lo: 3}, W: 1, N: 1}, at(end-3, 0, 1), mean.Mean{}, false},
		{"to one of none, and A", mean.Mean{A: wide.Of(1)}, at(1, 0, 1), mean.Mean{}, false},
		{"to one of none, and W", mean.Mean{W: 1}, at(1, 0, 1), mean.Mean{}, false},
		{"to one of too small a weight", mean.Mean{W: 1, N: 2}, at(1, 0, 7), mean.Mean{}, false},
		{"to one of too great a weight", mean.Mean{W: mostW + 1, N: 1}, at(1, 0, 1), mean.Mean{}, false},
		{"to one of below none", mean.Mean{N: -1}, at(1, 0, 1), mean.Mean{}, false},
		{"to one of 33", mean.Mean{W: 33, N: 33}, at(1, 0, 1), mean.Mean{}, false},
	} {
		got, ok := c.m.Add(c.p)
		check(t, c.what, got, ok, c.wanted, c.ok)
	}
	for _, p := range wrongPositions() {
		for _, m := range []mean.Mean{{}, {W: 1, N: 1}, {W: mostN, N: mostN}, {N: -1}} {
			got, ok := m.Add(p)
			check(t, "one that may not be", got, ok, mean.Mean{}, false)
		}
	}
}

func TestP8_1TakeEdges(t *testing.T) {
	for _, c := range []struct {
		what   string
		m      mean.Mean
		p      pos.Pos
		wanted mean.Mean
		ok     bool
	}{
		{"one of two", mean.Mean{Base: 5, A: wide.Of(3), W: 2, N: 2}, at(8, 0, 1), mean.Mean{Base: 5, W: 1, N: 1}, true},
		{"the last one", mean.Mean{Base: 5, A: wide.Of(3), W: 1, N: 1}, at(8, 0, 1), mean.Mean{Base: 5}, true},
		{"the last one, and A is 0 then", mean.Mean{Base: 5, A: wide.Of(3), W: 2, N: 1}, at(9, 1, 2), mean.Mean{Base: 5}, true},
		{"the last one, of an A as far as may be", mean.Mean{Base: 5, A: least, W: 1, N: 1}, at(8, 0, 1), mean.Mean{Base: 5}, true},
		{"the last one, and some weight is left", mean.Mean{A: wide.Of(3), W: 2, N: 1}, at(3, 0, 1), mean.Mean{}, false},
		{"the last one, of more weight", mean.Mean{A: wide.Of(3), W: 1, N: 1}, at(1, 1, 2), mean.Mean{}, false},
		{"of none", mean.Mean{Base: 5}, at(5, 0, 1), mean.Mean{}, false},
		{"of the zero one", mean.Mean{}, at(0, 0, 1), mean.Mean{}, false},
		{"all weight, but one is left", mean.Mean{W: 2, N: 2}, at(0, 0, 2), mean.Mean{}, false},
		{"more than all weight, and one is left", mean.Mean{W: 2, N: 2}, at(0, 0, 3), mean.Mean{}, false},
		{"all weight but the least that may be left", mean.Mean{W: 40, N: 3}, at(0, 0, 38), mean.Mean{W: 2, N: 2}, true},
		{"all weight but less than may be left", mean.Mean{W: 40, N: 3}, at(0, 0, 39), mean.Mean{}, false},
		{"the greatest weight that may be left", mean.Mean{W: mostW + 1, N: 2}, at(0, 0, 1), mean.Mean{W: mostW, N: 1}, true},
		{"more weight left than may be", mean.Mean{W: mostW + 2, N: 2}, at(0, 0, 1), mean.Mean{}, false},
		{"one of 32", mean.Mean{W: 32 * mostW, N: 32}, at(0, 0, mostW), mean.Mean{W: 31 * mostW, N: 31}, true},
		{"one of 32, and more weight left than may be", mean.Mean{W: 32 * mostW, N: 32}, at(0, 0, mostW-1), mean.Mean{}, false},
		{"up to the greatest A", mean.Mean{A: wide.Int{Hi: math.MaxInt64, Lo: math.MaxUint64 - 3}, W: 2, N: 2}, at(end-2, 0, 1), mean.Mean{A: greatest, W: 1, N: 1}, true},
		{"above the greatest A", mean.Mean{A: wide.Int{Hi: math.MaxInt64, Lo: math.MaxUint64 - 3}, W: 2, N: 2}, at(end-3, 0, 1), mean.Mean{}, false},
		{"down to the least A", mean.Mean{A: wide.Int{Hi: math.MinInt64, Lo: 3}, W: 2, N: 2}, at(3, 0, 1), mean.Mean{A: least, W: 1, N: 1}, true},
		{"below the least A", mean.Mean{A: wide.Int{Hi: math.MinInt64, Lo: 3}, W: 2, N: 2}, at(4, 0, 1), mean.Mean{}, false},
		{"one of none, and A", mean.Mean{A: wide.Of(1)}, at(1, 0, 1), mean.Mean{}, false},
		{"one of none, and W", mean.Mean{W: 1}, at(1, 0, 1), mean.Mean{}, false},
		{"one of below none", mean.Mean{W: 1, N: -1}, at(1, 0, 1), mean.Mean{}, false},
		{"one of too small a weight", mean.Mean{W: 1, N: 2}, at(0, 0, 1), mean.Mean{}, false},
		{"one of too great a weight of too great a weight", mean.Mean{W: 2*mostW + 1, N: 2}, at(0, 0, mostW+1), mean.Mean{}, false},
		{"one of 33, though 32 would be left", mean.Mean{W: 33, N: 33}, at(0, 0, 1), mean.Mean{}, false},
	} {
		got, ok := c.m.Take(c.p)
		check(t, c.what, got, ok, c.wanted, c.ok)
	}
	for _, m := range []mean.Mean{{W: 3, N: 2}, {W: mostW + 1, N: 1}, {W: mostW + 1, N: 2}, {W: 3 * mostW, N: 3}, {}} {
		for _, p := range wrongPositions() {
			got, ok := m.Take(p)
			check(t, "one that may not be", got, ok, mean.Mean{}, false)
		}
	}
}

func TestP8_2Rebase(t *testing.T) {
	for n := range mostN + 1 {
		for i, u := range times() {
			l := near(n, u)
			m, _ := mean.Of(u, l...)
			for _, to := range times() {
				got, ok := m.Rebase(to)
				far := difference(to, u)
				far.Sub(value(m.A), far.Mul(far, number(m.W)))
				check(t, "rebased", got, ok, mean.Mean{Base: to, A: mustWide(t, far), W: m.W, N: n}, true)
				back, ok := got.Rebase(u)
				if difference(to, u).Cmp(big.NewInt(math.MinInt64)) != 0 {
					check(t, "and back", back, ok, m, true)
				}
			}
			// To a base that isn't far from them it is what it would have been from there.
			to := u + vtime.Time(i)<<58 - 1<<60
			got, ok := m.Rebase(to)
			check(t, "rebased near", got, ok, ofParts(t, to, l), true)
		}
	}
}

func TestP8_2RebaseEdges(t *testing.T) {
	for _, c := range []struct {
		what   string
		m      mean.Mean
		to     vtime.Time
		wanted mean.Mean
		ok     bool
	}{
		{"of two, later", mean.Mean{Base: 5, A: wide.Of(3), W: 2, N: 2}, 7, mean.Mean{Base: 7, A: wide.Of(-1), W: 2, N: 2}, true},
		{"of two, earlier over the end", mean.Mean{Base: 5, A: wide.Of(3), W: 2, N: 2}, end, mean.Mean{Base: end, A: wide.Of(15), W: 2, N: 2}, true},
		{"to its own base", mean.Mean{Base: 5, A: wide.Of(3), W: 2, N: 2}, 5, mean.Mean{Base: 5, A: wide.Of(3), W: 2, N: 2}, true},
		{"of none", mean.Mean{Base: 5}, half, mean.Mean{Base: half}, true},
		{"a half of the way round", mean.Mean{W: 3, N: 1}, half, mean.Mean{Base: half, A: wide.Int{Hi: 1, Lo: 1 << 63}, W: 3, N: 1}, true},
		{"just short of that", mean.Mean{W: 2, N: 1}, half - 1, mean.Mean{Base: half - 1, A: wide.Int{Hi: -1, Lo: 2}, W: 2, N: 1}, true},
		{"up to the greatest A", mean.Mean{A: wide.Int{Hi: math.MaxInt64, Lo: math.MaxUint64 - 2}, W: 2, N: 1}, end, mean.Mean{Base: end, A: greatest, W: 2, N: 1}, true},
		{"above the greatest A", mean.Mean{A: wide.Int{Hi: math.MaxInt64, Lo: math.MaxUint64 - 1}, W: 2, N: 1}, end, mean.Mean{}, false},
		{"down to the least A", mean.Mean{A: wide.Int{Hi: math.MinInt64, Lo: 2}, W: 2, N: 1}, 1, mean.Mean{Base: 1, A: least, W: 2, N: 1}, true},
		{"below the least A", mean.Mean{A: wide.Int{Hi: math.MinInt64, Lo: 1}, W: 2, N: 1}, 1, mean.Mean{}, false},
		{"the greatest A stays", mean.Mean{Base: 9, A: greatest, W: 2, N: 1}, 9, mean.Mean{Base: 9, A: greatest, W: 2, N: 1}, true},
		{"the greatest weight", mean.Mean{W: 32 * mostW, N: 32}, half, mean.Mean{Base: half, A: wide.Int{Hi: 1 << 24}, W: 32 * mostW, N: 32}, true},
		{"of none, and A", mean.Mean{A: wide.Of(1)}, 1, mean.Mean{}, false},
		{"of none, and W", mean.Mean{W: 1}, 1, mean.Mean{}, false},
		{"of below none", mean.Mean{N: -1}, 1, mean.Mean{}, false},
		{"of 33", mean.Mean{W: 33, N: 33}, 0, mean.Mean{}, false},
		{"of too small a weight", mean.Mean{N: 1}, 0, mean.Mean{}, false},
		{"of too great a weight", mean.Mean{W: math.MaxUint64, N: 2}, 0, mean.Mean{}, false},
	} {
		got, ok := c.m.Rebase(c.to)
		check(t, c.what, got, ok, c.wanted, c.ok)
	}
}

func TestP8_2Floor(t *testing.T) {
	for n := range mostN + 1 {
		for _, u := range times() {
			for _, base := range times() {
				m, _ := mean.Of(base, near(n, u)...)
				got, ok := m.Floor()
				if wanted, is := floor(m); got != wanted || ok != is || ok != (n > 0) {
					t.Fatalf("floor of %+v: %d, %v, wanted %d, %v", m, got, ok, wanted, is)
				}
			}
		}
	}
}

func TestP8_2FloorEdges(t *testing.T) {
	// Of weights w all quotients around the least and the greatest one that may be.
	for _, w := range []uint64{1, 2, 3, mostW, 32 * mostW} {
		n := int(w+mostW-1) / mostW
		for _, q := range []int64{math.MinInt64, -1, 0, 1, math.MaxInt64} {
			for _, more := range []int64{-int64(w) - 1, -int64(w), -1, 0, 1, int64(w) - 1, int64(w), int64(w) + 1} {
				far := new(big.Int).Mul(big.NewInt(q), number(w))
				for _, base := range times() {
					m := mean.Mean{Base: base, A: mustWide(t, new(big.Int).Add(far, big.NewInt(more))), W: w, N: n}
					got, ok := m.Floor()
					if wanted, is := floor(m); got != wanted || ok != is {
						t.Fatalf("floor of %+v: %d, %v, wanted %d, %v", m, got, ok, wanted, is)
					}
				}
			}
		}
	}
	for _, c := range []struct {
		what   string
		m      mean.Mean
		wanted vtime.Time
		ok     bool
	}{
		{"of two", mean.Mean{Base: 5, A: wide.Of(3), W: 2, N: 2}, 6, true},
		{"ahead of its base", mean.Mean{Base: 5, A: wide.Of(-3), W: 2, N: 2}, 3, true},
		{"over the end", mean.Mean{Base: end, A: wide.Of(5), W: 2, N: 2}, 1, true},
		{"back over the end", mean.Mean{Base: 0, A: wide.Of(-1), W: 2, N: 2}, end, true},
		{"as far as may be", mean.Mean{Base: 1, A: wide.Of(math.MaxInt64), W: 1, N: 1}, half, true},
		{"further", mean.Mean{Base: 1, A: wide.OfU(1 << 63), W: 1, N: 1}, 0, false},
		{"as far ahead as may be", mean.Mean{Base: 1, A: wide.Of(math.MinInt64), W: 1, N: 1}, half + 1, true},
		{"further ahead", mean.Mean{Base: 1, A: wide.Int{Hi: -1, Lo: 1<<63 - 1}, W: 1, N: 1}, 0, false},
		{"of the greatest A", mean.Mean{Base: 1, A: greatest, W: 32 * mostW, N: 32}, 0, false},
		{"of the least A", mean.Mean{Base: 1, A: least, W: 32 * mostW, N: 32}, 0, false},
		{"of none", mean.Mean{Base: 7}, 0, false},
		{"of none, and W", mean.Mean{Base: 7, W: 1}, 0, false},
		{"of one without a weight", mean.Mean{Base: 7, N: 1}, 0, false},
		{"of below none", mean.Mean{Base: 7, W: 1, N: -1}, 0, false},
		{"of 33", mean.Mean{Base: 7, W: 33, N: 33}, 0, false},
		{"of too great a weight", mean.Mean{Base: 7, W: mostW + 1, N: 1}, 0, false},
	} {
		if got, ok := c.m.Floor(); got != c.wanted || ok != c.ok {
			t.Errorf("%s: floor of %+v: %d, %v, wanted %d, %v", c.what, c.m, got, ok, c.wanted, c.ok)
		}
	}
}

// behind is how far the virtual time lies behind an origin, where that isn't far from it.
func behind(m mean.Mean, origin vtime.Time) *big.Rat {
	far := new(big.Rat).SetFrac(value(m.A), number(m.W))
	return far.Add(far, new(big.Rat).SetInt(difference(m.Base, origin)))
}

func TestP8_3NoBase(t *testing.T) {
	for n := 1; n <= mostN; n++ {
		for _, u := range times() {
			l := near(n, u)
			m, _ := mean.Of(u, l...)
			now, _ := m.Floor()
			wanted := behind(m, u)
			for _, by := range []vtime.Time{1, end, 1 << 61, end - 1<<61 + 1, 12345678901234567} {
				other, ok := mean.Of(u+by, l...)
				if !ok || behind(other, u).Cmp(wanted) != 0 {
					t.Fatalf("from %d the virtual time is %v behind %d, from there %v", u+by, behind(other, u), u, wanted)
				}
				if then, ok := other.Floor(); !ok || then != now {
					t.Fatalf("from %d it is now %d, from %d %d", u, now, u+by, then)
				}
				rebased, ok := m.Rebase(u + by)
				check(t, "rebased", rebased, ok, other, true)
			}
		}
	}
}

func TestP8_3NoOrder(t *testing.T) {
	for n := range mostN + 1 {
		l := near(n, end)
		wanted, _ := mean.Of(3, l...)
		for i := range l {
			turned := slices.Concat(l[i:], l[:i])
			got, ok := mean.Of(3, turned...)
			check(t, "turned", got, ok, wanted, true)
			slices.Reverse(turned)
			got, ok = mean.Of(3, turned...)
			check(t, "turned and reversed", got, ok, wanted, true)
		}
	}
}

func TestP8_3AddedAndTakenAgain(t *testing.T) {
	for n := range mostN {
		for _, base := range times() {
			m, _ := mean.Of(base, near(n, 9)...)
			for _, p := range positions() {
				more, ok := m.Add(p)
				if !ok {
					t.Fatalf("%+v isn't added to %+v", p, m)
				}
				again, ok := more.Take(p)
				check(t, "added and taken again", again, ok, m, true)
			}
		}
	}
}

func TestP8_3BetweenTheFirstAndTheLast(t *testing.T) {
	for n := 1; n <= mostN; n++ {
		for _, u := range times() {
			l := near(n, u)
			m, _ := mean.Of(u, l...)
			far, some := behind(m, u), [3]bool{}
			for _, p := range l {
				place := new(big.Rat).SetFrac(distance(p, u), number(uint64(p.W)))
				some[1+place.Cmp(far)] = true
			}
			// Either it lies at all of them, or some lie ahead of it, and some behind it.
			if some[0] != some[2] || !some[0] && !some[1] {
				t.Fatalf("the virtual time %v behind %d isn't between %+v", far, u, l)
			}
		}
	}
}
