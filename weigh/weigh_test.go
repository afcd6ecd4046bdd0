package weigh_test

import (
	"math"
	"math/big"
	"slices"
	"testing"

	"turnstone/lag"
	"turnstone/mean"
	"turnstone/pos"
	"turnstone/vtime"
	"turnstone/weigh"
	"turnstone/wide"
)

const (
	end      = vtime.Time(math.MaxUint64)
	half     = vtime.Time(1 << 63)
	mostW    = 1 << 20
	mostN    = 32
	mostWord = math.MaxUint32
)

var (
	least    = wide.Int{Hi: math.MinInt64}
	greatest = wide.Int{Hi: math.MaxInt64, Lo: math.MaxUint64}
)

func times() []vtime.Time {
	return []vtime.Time{0, 1, 5, 1 << 40, 1 << 62, half - 1, half, half + 1, 3 << 62, end - 4, end, 88172645463325252}
}

// shifts by which times are moved, or bases are chosen; none is as far as a half of the way round.
func shifts() []vtime.Time {
	return []vtime.Time{0, 1, end, 1 << 61, end - 1<<61 + 1, 3 << 60, 12345678901234567}
}

func weights() []uint32 { return []uint32{1, 2, 3, 7, 1 << 10, 1<<20 - 1, mostW} }

// wrongWeights: of these no position may be.
func wrongWeights() []uint32 { return []uint32{0, mostW + 1, 1 << 21, 1 << 31, mostWord} }

func number(x uint64) *big.Int { return new(big.Int).SetUint64(x) }

func value(a wide.Int) *big.Int {
	v := new(big.Int).Lsh(big.NewInt(a.Hi), 64)
	return v.Add(v, number(a.Lo))
}

// ofNumber is the wide number that is so great, if there is one.
func ofNumber(v *big.Int) (wide.Int, bool) {
	if v.Cmp(value(least)) < 0 || v.Cmp(value(greatest)) > 0 {
		return wide.Int{}, false
	}
	hi, lo := new(big.Int).DivMod(v, new(big.Int).Lsh(big.NewInt(1), 64), new(big.Int))
	return wide.Int{Hi: hi.Int64(), Lo: lo.Uint64()}, true
}

func isWide(v *big.Int) bool {
	_, ok := ofNumber(v)
	return ok
}

// modulo is the time that a number is modulo 2^64.
func modulo(v *big.Int) vtime.Time {
	return vtime.Time(new(big.Int).Mod(v, new(big.Int).Lsh(big.NewInt(1), 64)).Uint64())
}

// difference of two times, by numbers without bounds.
func difference(t, u vtime.Time) *big.Int {
	d := new(big.Int).Sub(number(uint64(t)), number(uint64(u)))
	round := new(big.Int).Lsh(big.NewInt(1), 64)
	if !d.IsInt64() && d.Sign() > 0 {
		d.Sub(d, round)
	}
	if !d.IsInt64() {
		d.Add(d, round)
	}
	return d
}

// distance is what layer 4 says of one, by numbers without bounds.
func distance(p pos.Pos, base vtime.Time) *big.Int {
	d := difference(p.Time, base)
	d.Mul(d, number(uint64(p.W)))
	return d.Add(d, number(uint64(p.R)))
}

// layer4 is what the document says of At, by numbers without bounds.
func layer4(base vtime.Time, far *big.Int, w uint32) (pos.Pos, bool) {
	// Of a divisor above 0 DivMod rounds down.
	q, left := new(big.Int).DivMod(far, number(uint64(w)), new(big.Int))
	if !q.IsInt64() {
		return pos.Pos{}, false
	}
	return pos.Pos{Time: modulo(q.Add(q, number(uint64(base)))), R: uint32(left.Uint64()), W: w}, true
}

func mayBePos(p pos.Pos) bool { return p.W >= 1 && p.W <= mostW && p.R < p.W }

// mayBe is what layer 8 says of a mean of some positions.
func mayBe(m mean.Mean) bool {
	return m.N >= 1 && m.N <= mostN && m.W >= uint64(m.N) && m.W <= uint64(m.N)*mostW
}

// weighed is what the document says of Weigh, by numbers without bounds.
func weighed(m mean.Mean, p pos.Pos, w uint32) (pos.Pos, bool) {
	if !mayBe(m) || !mayBePos(p) || w < 1 || w > mostW {
		return pos.Pos{}, false
	}
	product := new(big.Int).Mul(value(m.A), big.NewInt(int64(w)-int64(p.W)))
	far := new(big.Int).Add(distance(p, m.Base), new(big.Int).Div(product, number(m.W)))
	if !isWide(product) || !isWide(far) {
		return pos.Pos{}, false
	}
	return layer4(m.Base, far, w)
}

// inThePlace is what the document says of Shifted, by numbers without bounds.
func inThePlace(m mean.Mean, old, new pos.Pos) (mean.Mean, bool) {
	if !mayBe(m) || !mayBePos(old) || !mayBePos(new) || uint64(old.W) > m.W {
		return mean.Mean{}, false
	}
	left := mean.Mean{Base: m.Base, W: m.W - uint64(old.W), N: m.N - 1}
	far := value(m.A)
	far.Sub(far, distance(old, m.Base))
	if left.N == 0 {
		far.SetInt64(0)
	}
	if left.N == 0 && left.W != 0 || left.N > 0 && !mayBe(left) || !isWide(far) {
		return mean.Mean{}, false
	}
	a, ok := ofNumber(far.Add(far, distance(new, m.Base)))
	if !ok {
		return mean.Mean{}, false
	}
	return mean.Mean{Base: m.Base, A: a, W: left.W + uint64(new.W), N: m.N}, true
}

// check holds what Weigh answers against what the document says.
func check(t *testing.T, m mean.Mean, p pos.Pos, w uint32) (pos.Pos, bool) {
	t.Helper()
	got, ok := weigh.Weigh(m, p, w)
	if wanted, is := weighed(m, p, w); got != wanted || ok != is {
		t.Fatalf("%+v in %+v, with the weight %d: %+v, %v, wanted %+v, %v", p, m, w, got, ok, wanted, is)
	}
	return got, ok
}

// checkShifted holds what Shifted answers against what the document says.
func checkShifted(t *testing.T, m mean.Mean, old, new pos.Pos) (mean.Mean, bool) {
	t.Helper()
	got, ok := weigh.Shifted(m, old, new)
	if wanted, is := inThePlace(m, old, new); got != wanted || ok != is {
		t.Fatalf("%+v in the place of %+v in %+v: %+v, %v, wanted %+v, %v", new, old, m, got, ok, wanted, is)
	}
	return got, ok
}

func at(t vtime.Time, r, w uint32) pos.Pos { return pos.Pos{Time: t, R: r, W: w} }

// positions that may be, at all times, of all kinds of weight.
func positions() []pos.Pos {
	var l []pos.Pos
	for i, u := range times() {
		for j, w := range weights() {
			l = append(l, at(u, uint32(i+j)*(w/3)%w, w), at(u, w-1, w))
		}
	}
	return l
}

// wrongPositions may not be.
func wrongPositions() []pos.Pos {
	return []pos.Pos{{}, at(5, 0, 0), at(5, 1, 0), at(5, 1, 1), at(5, 3, 3), at(5, mostW, mostW), at(5, 0, mostW+1), at(5, 0, mostWord), at(5, mostWord, mostWord), at(5, mostWord, 1)}
}

// wrongMeans may not be, or are of no position.
func wrongMeans() []mean.Mean {
	return []mean.Mean{
		{}, {Base: end}, {A: wide.Of(1)}, {A: least}, {W: 1}, {W: math.MaxUint64}, {N: 1}, {A: wide.Of(7), N: 1},
		{W: mostW + 1, N: 1}, {W: 1, N: 2}, {W: 2*mostW + 1, N: 2}, {W: mostN - 1, N: mostN}, {W: mostN*mostW + 1, N: mostN},
		{W: mostN + 1, N: mostN + 1}, {W: mostN * mostW, N: mostN + 1}, {W: math.MaxUint64, N: 1}, {W: 1 << 63, N: 1},
		{N: -1}, {W: 1, N: -1}, {W: math.MaxUint64, N: -1}, {W: 1 << 63, N: math.MinInt}, {W: math.MaxInt, N: math.MaxInt},
	}
}

// near: so many positions that may be, no two further than 2^61 from one another, around that time; without a pattern, but always the same.
func near(n int, around vtime.Time) []pos.Pos {
	x := uint64(n)*2 + 88172645463325253
	next := func() uint64 {
		x ^= x << 13
		x ^= x >> 7
		x ^= x << 17
		return x
	}
	var l []pos.Pos
	for range n {
		w := uint32(1) << (next() >> 8 % 21)
		w -= uint32(next()>>8) % w / 2
		// Some lie a little from one another, and some far.
		offset := vtime.Time(next()>>(4+next()%50)) - 1<<59
		l = append(l, at(around+offset, uint32(next()>>8)%w, w))
	}
	return l
}

// mustOf is the mean of some positions.
func mustOf(t *testing.T, base vtime.Time, l []pos.Pos) mean.Mean {
	t.Helper()
	m, ok := mean.Of(base, l...)
	if !ok {
		t.Fatalf("there is no mean of %+v", l)
	}
	return m
}

func TestP11_1OfTheirOwn(t *testing.T) {
	told, all := 0, 0
	for n := 1; n <= mostN; n++ {
		for i, u := range times() {
			l := near(n, u)
			for _, base := range []vtime.Time{u, u + 1<<61, u - 1<<61, times()[(i+n)%len(times())]} {
				m := mustOf(t, base, l)
				for _, p := range l {
					for _, w := range append(weights(), p.W-1, p.W+1) {
						all++
						if _, ok := check(t, m, p, w); ok {
							told++
						}
					}
				}
			}
		}
	}
	if told < all/2 {
		t.Errorf("of %d only %d were weighed", all, told)
	}
}

func TestP11_1OfNoneOfTheMean(t *testing.T) {
	for _, n := range []int{1, 2, 3, 31, mostN} {
		for i, u := range times() {
			for _, base := range []vtime.Time{u, u + 1<<61, times()[(i+n)%len(times())]} {
				m := mustOf(t, base, near(n, u))
				for _, p := range positions() {
					for _, w := range append(weights(), wrongWeights()...) {
						check(t, m, p, w)
					}
				}
			}
		}
	}
}

func TestP11_1Edges(t *testing.T) {
	two := mean.Mean{Base: 5, A: wide.Of(3), W: 2, N: 2}
	ahead := mean.Mean{Base: 9, A: wide.Of(-3), W: 2, N: 2}
	heavy := mean.Mean{Base: 9, A: wide.Of(-1), W: mostN * mostW, N: mostN}
	for _, c := range []struct {
		what   string
		m      mean.Mean
		p      pos.Pos
		w      uint32
		wanted pos.Pos
		ok     bool
	}{
		{"of two, the second one", two, at(8, 0, 1), 2, at(7, 0, 2), true},
		{"of two, the first one", two, at(5, 0, 1), 2, at(5, 1, 2), true},
		{"with thrice the weight", two, at(8, 0, 1), 3, at(7, 0, 3), true},
		{"with the greatest weight", two, at(8, 0, 1), mostW, at(6, 1<<19+1, mostW), true},
		{"with its own weight", two, at(8, 0, 1), 1, at(8, 0, 1), true},
		{"of another one, with less weight", two, at(8, 0, 2), 1, at(9, 0, 1), true},
		{"of another one, with much less", two, at(8, 0, 4), 1, at(12, 0, 1), true},
		{"of another one at the virtual time", two, at(6, 1, 2), 4, at(6, 2, 4), true},
		{"of another one there, that is rounded down", two, at(6, 1, 2), 3, at(6, 1, 3), true},
		{"of another one there, with less weight", two, at(6, 1, 2), 1, at(6, 0, 1), true},
		{"from the greatest weight to the least", two, at(6, 1<<19, mostW), 1, at(6, 0, 1), true},
		{"from the least weight to the greatest", two, at(6, 0, 1), mostW, at(6, 1<<19-1, mostW), true},
		{"ahead of the base, with more weight", ahead, at(6, 0, 1), 2, at(6, 1, 2), true},
		{"ahead of the base, with less weight", ahead, at(6, 0, 2), 1, at(4, 0, 1), true},
		{"at the base, with more weight", ahead, at(9, 0, 1), 2, at(8, 0, 2), true},
		{"at the base, with less weight", ahead, at(9, 0, 2), 1, at(10, 0, 1), true},
		{"hardly ahead of the base, with more weight", heavy, at(9, 0, 1), 2, at(8, 1, 2), true},
		{"hardly ahead of the base, with less weight", heavy, at(9, 0, 2), 1, at(9, 0, 1), true},
		{"hardly ahead of the base, with its own weight", heavy, at(9, 0, 2), 2, at(9, 0, 2), true},
		{"one alone, with more weight", mean.Mean{Base: 5, A: wide.Of(7), W: 3, N: 1}, at(7, 1, 3), 6, at(7, 2, 6), true},
		{"one alone, with less weight", mean.Mean{Base: 5, A: wide.Of(7), W: 3, N: 1}, at(7, 1, 3), 2, at(7, 0, 2), true},
		{"one alone, and another one", mean.Mean{Base: 5, A: wide.Of(7), W: 3, N: 1}, at(11, 0, 1), 4, at(8, 1, 4), true},
		{"over the end", mean.Mean{Base: end, A: wide.Of(4), W: 2, N: 2}, at(0, 0, 1), 3, at(0, 2, 3), true},
		{"back over the end", mean.Mean{Base: 0, A: wide.Of(-4), W: 2, N: 2}, at(1, 0, 1), 2, at(end, 1, 2), true},
		{"as far behind as may be", mean.Mean{Base: 1, A: wide.OfU(1<<64 - 2), W: 1, N: 1}, at(1, 0, 1), 2, at(half, 0, 2), true},
		{"and a little further", mean.Mean{Base: 1, A: wide.OfU(1<<64 - 1), W: 1, N: 1}, at(1, 0, 1), 2, at(half, 1, 2), true},
		{"further than At can tell", mean.Mean{Base: 1, A: wide.Int{Hi: 1}, W: 1, N: 1}, at(1, 0, 1), 2, pos.Pos{}, false},
		{"as far ahead as may be", mean.Mean{Base: 1, A: wide.Int{Hi: -1}, W: 1, N: 1}, at(1, 0, 1), 2, at(half+1, 0, 2), true},
		{"further ahead than At can tell", mean.Mean{Base: 1, A: wide.Int{Hi: -2, Lo: math.MaxUint64}, W: 1, N: 1}, at(1, 0, 1), 2, pos.Pos{}, false},
		{"as far behind as may be, of the least weight again", mean.Mean{Base: 1, A: wide.Of(-math.MaxInt64), W: 1, N: 1}, at(1, 0, 2), 1, at(half, 0, 1), true},
		{"further behind, of the least weight again", mean.Mean{Base: 1, A: wide.Of(math.MinInt64), W: 1, N: 1}, at(1, 0, 2), 1, pos.Pos{}, false},
		{"the greatest A, with its own weight", mean.Mean{Base: 1, A: greatest, W: 1, N: 1}, at(half, 0, 1), 1, at(half, 0, 1), true},
		{"the least A, with its own weight", mean.Mean{Base: 1, A: least, W: 1, N: 1}, at(half+1, 2, 3), 3, at(half+1, 2, 3), true},
		{"the greatest A, with one more", mean.Mean{Base: 1, A: greatest, W: mostN * mostW, N: mostN}, at(1, 0, 1), 2, pos.Pos{}, false},
		{"the greatest A, with two more", mean.Mean{Base: 1, A: greatest, W: mostN * mostW, N: mostN}, at(1, 0, 1), 3, pos.Pos{}, false},
		{"a product that is too great", mean.Mean{Base: 1, A: wide.Int{Hi: 1 << 43}, W: mostN * mostW, N: mostN}, at(1, 0, 1), mostW, pos.Pos{}, false},
		{"a product just too great", mean.Mean{A: wide.Int{Hi: 1 << 62}, W: mostN * mostW, N: mostN}, at(0, 0, 1), 3, pos.Pos{}, false},
		{"a product just too small", mean.Mean{A: wide.Int{Hi: -1<<62 - 1, Lo: math.MaxUint64}, W: mostN * mostW, N: mostN}, at(0, 0, 1), 3, pos.Pos{}, false},
		{"the least A, with one less", mean.Mean{A: least, W: mostN * mostW, N: mostN}, at(0, 0, 2), 1, pos.Pos{}, false},
		{"a sum that is too great", mean.Mean{A: greatest, W: 1, N: 1}, at(1, 0, 1), 2, pos.Pos{}, false},
		{"a sum that is too small", mean.Mean{A: least, W: 1, N: 1}, at(end, 0, 1), 2, pos.Pos{}, false},
	} {
		got, ok := check(t, c.m, c.p, c.w)
		if got != c.wanted || ok != c.ok {
			t.Errorf("%s: %+v, %v, wanted %+v, %v", c.what, got, ok, c.wanted, c.ok)
		}
	}
}

// meansOf: of each A a mean of few and of many weights.
func meansOf(base vtime.Time, a wide.Int) []mean.Mean {
	var l []mean.Mean
	for _, c := range []struct {
		n int
		w uint64
	}{{1, 1}, {1, 3}, {2, 7}, {1, mostW}, {mostN, mostN}, {mostN, mostN*mostW - 1}, {mostN, mostN * mostW}} {
		l = append(l, mean.Mean{Base: base, A: a, W: c.w, N: c.n})
	}
	return l
}

func TestP11_1TheSameWeightAgain(t *testing.T) {
	for _, a := range []wide.Int{{}, wide.Of(1), wide.Of(-1), wide.Of(math.MaxInt64), {Hi: 1 << 62}, greatest, least} {
		for _, base := range times() {
			for _, m := range meansOf(base, a) {
				for _, p := range positions() {
					if got, ok := weigh.Weigh(m, p, p.W); got != p || !ok {
						t.Fatalf("%+v in %+v, with its own weight: %+v, %v", p, m, got, ok)
					}
				}
			}
		}
	}
}

func TestP11_1AtsBounds(t *testing.T) {
	// Around the least and the greatest whole number that At can tell, and around whole numbers in the midst.
	for _, own := range []pos.Pos{at(9, 0, 1), at(7, 2, 3), at(11, 5, 7), at(1<<40, 0, mostW), at(end, mostW-1, mostW)} {
		for _, w := range weights() {
			if w == own.W {
				continue
			}
			more := big.NewInt(int64(w) - int64(own.W))
			for _, whole := range []int64{math.MinInt64, -1, 0, 1, math.MaxInt64} {
				for _, m := range meansOf(9, wide.Int{}) {
					// A times more, divided by W(m), is w times that whole number less the distance, and a little.
					far := new(big.Int).Mul(number(uint64(w)), big.NewInt(whole))
					far.Sub(far, distance(own, m.Base))
					far.Div(far.Mul(far, number(m.W)), more)
					for little := -int64(m.W) - 1; little <= int64(m.W)+1; little += max(1, int64(m.W)-1) {
						var ok bool
						if m.A, ok = ofNumber(new(big.Int).Add(far, big.NewInt(little))); !ok {
							t.Fatalf("%v is no wide number", far)
						}
						check(t, m, own, w)
					}
				}
			}
		}
	}
}

func TestP11_1NoWideNumber(t *testing.T) {
	// Around the least and the greatest A of which the product is a wide number, or the sum is one.
	for _, own := range append(positions()[:14], positions()[len(positions())-14:]...) {
		for _, w := range weights() {
			if w == own.W {
				continue
			}
			more := big.NewInt(int64(w) - int64(own.W))
			for _, edge := range []wide.Int{least, greatest} {
				for _, m := range meansOf(9, wide.Int{}) {
					sum := new(big.Int).Sub(value(edge), distance(own, m.Base))
					sum.Mul(sum, number(m.W))
					for _, far := range []*big.Int{value(edge), sum} {
						far = new(big.Int).Quo(far, more)
						for little := int64(-2); little <= 2; little++ {
							if a, ok := ofNumber(new(big.Int).Add(far, big.NewInt(little))); ok {
								m.A = a
								check(t, m, own, w)
							}
						}
					}
				}
			}
		}
	}
}

func TestP11_1Wrong(t *testing.T) {
	for _, m := range wrongMeans() {
		for _, p := range append(positions(), wrongPositions()...) {
			for _, w := range append(weights(), wrongWeights()...) {
				if got, ok := check(t, m, p, w); ok {
					t.Fatalf("in %+v, of which there is none: %+v", m, got)
				}
			}
		}
	}
	for n := 1; n <= mostN; n++ {
		l := near(n, 9)
		m := mustOf(t, 5, l)
		for _, p := range wrongPositions() {
			for _, w := range append(weights(), wrongWeights()...) {
				if got, ok := check(t, m, p, w); ok {
					t.Fatalf("of %+v, that may not be: %+v", p, got)
				}
			}
		}
		for _, w := range wrongWeights() {
			if got, ok := check(t, m, l[0], w); ok {
				t.Fatalf("of the weight %d, that may not be: %+v", w, got)
			}
		}
	}
}

func TestP11_1NoBaseAndNoOrigin(t *testing.T) {
	for n := 1; n <= mostN; n++ {
		for _, u := range times() {
			l := near(n, u)
			m := mustOf(t, u, l)
			for i, p := range l {
				w := weights()[(n+i)%len(weights())]
				wanted, ok := weigh.Weigh(m, p, w)
				for _, by := range append(shifts(), half) {
					shifted := m
					shifted.Base += by
					got, is := weigh.Weigh(shifted, p.Shift(by), w)
					if is != ok || ok && got != wanted.Shift(by) {
						t.Fatalf("shifted by %d: %+v, %v, unshifted %+v, %v", by, got, is, wanted, ok)
					}
					if from, can := m.Rebase(u + by); can && ok && by != half && near61(wanted, u) {
						if got, is := weigh.Weigh(from, p, w); got != wanted || !is {
							t.Fatalf("from %d: %+v, %v, from %d: %+v", u+by, got, is, u, wanted)
						}
					}
				}
			}
		}
	}
}

// near61: is it so near to u that its distance is right from each base that the tests choose?
func near61(p pos.Pos, u vtime.Time) bool {
	return difference(p.Time, u).CmpAbs(big.NewInt(1<<61)) < 0
}

func TestP11_2OneOfThemForAnother(t *testing.T) {
	for n := 1; n <= mostN; n++ {
		for i, u := range times() {
			l := near(n, u)
			for _, base := range []vtime.Time{u, u - 1<<61, times()[(i+n)%len(times())]} {
				m := mustOf(t, base, l)
				for j, p := range positions() {
					got, ok := checkShifted(t, m, l[j%n], p)
					with := slices.Clone(l)
					with[j%n] = p
					if got != mustOf(t, base, with) || !ok {
						t.Fatalf("%+v in the place of %+v: %+v, %v", p, l[j%n], got, ok)
					}
				}
			}
		}
	}
}

func TestP11_2AndBack(t *testing.T) {
	for n := 1; n <= mostN; n++ {
		for _, u := range times() {
			l := near(n, u)
			m := mustOf(t, u, l)
			for _, p := range positions() {
				there, _ := checkShifted(t, m, l[n/2], p)
				if back, ok := checkShifted(t, there, p, l[n/2]); back != m || !ok {
					t.Fatalf("there and back %+v is %+v, %v", m, back, ok)
				}
				if same, ok := checkShifted(t, m, l[n/2], l[n/2]); same != m || !ok {
					t.Fatalf("itself in its place: %+v, %v", same, ok)
				}
			}
		}
	}
}

func TestP11_2Edges(t *testing.T) {
	two := mean.Mean{Base: 5, A: wide.Of(3), W: 2, N: 2}
	high := wide.Int{Hi: math.MaxInt64, Lo: math.MaxUint64 - 3}
	low := wide.Int{Hi: math.MinInt64, Lo: 3}
	for _, c := range []struct {
		what     string
		m        mean.Mean
		old, new pos.Pos
		wanted   mean.Mean
		ok       bool
	}{
		{"of two, the second one with twice the weight", two, at(8, 0, 1), at(7, 0, 2), mean.Mean{Base: 5, A: wide.Of(4), W: 3, N: 2}, true},
		{"of two, the first one far behind", two, at(5, 0, 1), at(20, 2, 3), mean.Mean{Base: 5, A: wide.Of(50), W: 4, N: 2}, true},
		{"of one alone", mean.Mean{Base: 5, A: wide.Of(7), W: 3, N: 1}, at(7, 1, 3), at(4, 1, 2), mean.Mean{Base: 5, A: wide.Of(-1), W: 2, N: 1}, true},
		{"of one alone, that lies elsewhere", mean.Mean{Base: 5, A: wide.Of(7), W: 3, N: 1}, at(100, 1, 3), at(4, 1, 2), mean.Mean{Base: 5, A: wide.Of(-1), W: 2, N: 1}, true},
		{"of one alone, of the least A", mean.Mean{Base: 5, A: least, W: 3, N: 1}, at(100, 1, 3), at(4, 1, 2), mean.Mean{Base: 5, A: wide.Of(-1), W: 2, N: 1}, true},
		{"of one alone, of another weight", mean.Mean{Base: 5, A: wide.Of(7), W: 3, N: 1}, at(7, 1, 2), at(4, 1, 2), mean.Mean{}, false},
		{"of 32, of the least weight", mean.Mean{W: mostN, N: mostN}, at(0, 0, 1), at(3, 0, mostW), mean.Mean{A: wide.Of(3 * mostW), W: mostN - 1 + mostW, N: mostN}, true},
		{"of 32, of the greatest weight", mean.Mean{W: mostN * mostW, N: mostN}, at(0, 0, mostW), at(end, 0, 1), mean.Mean{A: wide.Of(-1), W: (mostN-1)*mostW + 1, N: mostN}, true},
		{"of 32, and too much weight would be left", mean.Mean{W: mostN * mostW, N: mostN}, at(0, 0, 1), at(0, 0, 1), mean.Mean{}, false},
		{"of more weight than there is", two, at(5, 0, 3), at(5, 0, 3), mean.Mean{}, false},
		{"of all weight, and one would be left", two, at(5, 0, 2), at(5, 0, 2), mean.Mean{}, false},
		{"over the end", mean.Mean{Base: end, A: wide.Of(3), W: 2, N: 2}, at(2, 0, 1), at(end-1, 0, 1), mean.Mean{Base: end, A: wide.Of(-1), W: 2, N: 2}, true},
		{"up to the greatest A, and down again", mean.Mean{A: high, W: 2, N: 2}, at(end-2, 0, 1), at(end, 0, 1), mean.Mean{A: wide.Int{Hi: math.MaxInt64, Lo: math.MaxUint64 - 1}, W: 2, N: 2}, true},
		{"above the greatest A, if it came down again, too", mean.Mean{A: high, W: 2, N: 2}, at(end-3, 0, 1), at(end-3, 0, 1), mean.Mean{}, false},
		{"down, and up to the greatest A", mean.Mean{A: high, W: 2, N: 2}, at(1, 0, 1), at(4, 0, 1), mean.Mean{A: greatest, W: 2, N: 2}, true},
		{"down, and above the greatest A", mean.Mean{A: high, W: 2, N: 2}, at(1, 0, 1), at(5, 0, 1), mean.Mean{}, false},
		{"down to the least A, and up again", mean.Mean{A: low, W: 2, N: 2}, at(3, 0, 1), at(1, 0, 1), mean.Mean{A: wide.Int{Hi: math.MinInt64, Lo: 1}, W: 2, N: 2}, true},
		{"below the least A, if it came up again, too", mean.Mean{A: low, W: 2, N: 2}, at(4, 0, 1), at(4, 0, 1), mean.Mean{}, false},
		{"up, and down to the least A", mean.Mean{A: low, W: 2, N: 2}, at(end, 0, 1), at(end-3, 0, 1), mean.Mean{A: least, W: 2, N: 2}, true},
		{"up, and below the least A", mean.Mean{A: low, W: 2, N: 2}, at(end, 0, 1), at(end-4, 0, 1), mean.Mean{}, false},
	} {
		got, ok := checkShifted(t, c.m, c.old, c.new)
		if got != c.wanted || ok != c.ok {
			t.Errorf("%s: %+v, %v, wanted %+v, %v", c.what, got, ok, c.wanted, c.ok)
		}
	}
}

func TestP11_2Wrong(t *testing.T) {
	some := append(positions()[:28], wrongPositions()...)
	for _, m := range wrongMeans() {
		for _, old := range some {
			for _, p := range some {
				if got, ok := checkShifted(t, m, old, p); ok {
					t.Fatalf("in %+v, of which there is none: %+v", m, got)
				}
			}
		}
	}
	for n := 1; n <= mostN; n++ {
		l := near(n, 9)
		m := mustOf(t, 5, l)
		for _, p := range wrongPositions() {
			if got, ok := checkShifted(t, m, p, l[0]); ok {
				t.Fatalf("in the place of %+v, that may not be: %+v", p, got)
			}
			if got, ok := checkShifted(t, m, l[0], p); ok {
				t.Fatalf("%+v, that may not be, in a place: %+v", p, got)
			}
		}
	}
	// Here the old one has all the weight that there is.
	alone := mustOf(t, 5, []pos.Pos{at(7, 1, 3)})
	for _, p := range wrongPositions() {
		checkShifted(t, alone, at(7, 1, 3), p)
		checkShifted(t, alone, p, at(7, 1, 3))
	}
}

// virtual is how far the virtual time of a mean lies behind its base.
func virtual(m mean.Mean) *big.Rat { return new(big.Rat).SetFrac(value(m.A), number(m.W)) }

// exactLag is the lag of a position, by fractions.
func exactLag(m mean.Mean, p pos.Pos) *big.Rat {
	share := new(big.Rat).Mul(virtual(m), new(big.Rat).SetInt(number(uint64(p.W))))
	return share.Sub(share, new(big.Rat).SetInt(distance(p, m.Base)))
}

// fromTo is how much greater a number is than another one.
func fromTo(from, to *big.Rat) *big.Rat { return new(big.Rat).Sub(to, from) }

// less: is it 0, or more, and below a bound?
func less(t *testing.T, what string, x, bound *big.Rat) {
	t.Helper()
	if x.Sign() < 0 || x.Cmp(bound) >= 0 {
		t.Fatalf("%s by %v, not by less than %v", what, x, bound)
	}
}

// turns gives one of some positions another weight, and holds what becomes of all lags, and of the virtual time, against what is promised; it answers how they stand then, or false, where there is no such position, or it is too far from the base.
func turns(t *testing.T, base vtime.Time, l []pos.Pos, which int, w uint32) ([]pos.Pos, bool) {
	t.Helper()
	m := mustOf(t, base, l)
	p, ok := weigh.Weigh(m, l[which], w)
	if !ok {
		return nil, false
	}
	turned, ok := weigh.Shifted(m, l[which], p)
	if !ok {
		t.Fatalf("%+v isn't in the place of %+v in %+v", p, l[which], m)
	}
	if turned.N != m.N || turned.W != m.W-uint64(l[which].W)+uint64(w) || turned.Base != m.Base {
		t.Fatalf("%+v with another weight is %+v", m, turned)
	}
	grain := big.NewRat(1, 1)
	bound := new(big.Rat).SetFrac(big.NewInt(1), number(turned.W))
	less(t, "the virtual time is ahead", fromTo(virtual(turned), virtual(m)), bound)
	less(t, "its own lag is more", fromTo(exactLag(m, l[which]), exactLag(turned, p)), grain)
	for i, q := range l {
		if i != which {
			less(t, "another's lag is less", fromTo(exactLag(turned, q), exactLag(m, q)), grain)
		}
	}
	then := slices.Clone(l)
	then[which] = p
	return then, true
}

func TestP11_3TheSameLag(t *testing.T) {
	told, all := 0, 0
	for n := 1; n <= mostN; n++ {
		for i, u := range times() {
			l := near(n, u)
			for j, by := range shifts() {
				for which := (i + j) % 5; which < n; which += 5 {
					for _, w := range []uint32{1, weights()[(i+j+which)%len(weights())], mostW} {
						all++
						if _, ok := turns(t, u+by, l, which, w); ok {
							told++
						}
					}
				}
			}
		}
	}
	if told < all/2 {
		t.Errorf("of %d only %d were turned", all, told)
	}
}

func TestP11_3AllLagsBeforeAndBehind(t *testing.T) {
	// Read rounds each of them down, by less than a grain.
	for n := 1; n <= mostN; n++ {
		for _, u := range times() {
			l := near(n, u)
			m := mustOf(t, u, l)
			for which := range l {
				w := weights()[(n+which)%len(weights())]
				p, ok := weigh.Weigh(m, l[which], w)
				if !ok {
					continue
				}
				turned, _ := weigh.Shifted(m, l[which], p)
				for i, q := range l {
					before, _ := lag.Read(m, q)
					lowest, highest := int64(-1), int64(0)
					if i == which {
						q, lowest, highest = p, 0, 1
					}
					behind, ok := lag.Read(turned, q)
					more, _ := behind.Sub(before)
					if n, small := more.Small(); !ok || !small || n < lowest || n > highest {
						t.Fatalf("the lag of %+v was %s, and is %s, as %+v has the weight %d", l[i], before, behind, l[which], w)
					}
				}
			}
		}
	}
}

func TestP11_3TheExample(t *testing.T) {
	l := []pos.Pos{at(5, 0, 1), at(8, 0, 1)}
	then, ok := turns(t, 5, l, 1, 2)
	if !ok || then[1] != at(7, 0, 2) {
		t.Fatalf("of two the second one with twice the weight is at %+v", then)
	}
	before, behind := mustOf(t, 5, l), mustOf(t, 5, then)
	for i, wanted := range []*big.Rat{big.NewRat(3, 2), big.NewRat(-3, 2)} {
		if got := exactLag(before, l[i]); got.Cmp(wanted) != 0 {
			t.Errorf("the lag of the place %d was %v", i, got)
		}
	}
	for i, wanted := range []*big.Rat{big.NewRat(4, 3), big.NewRat(-4, 3)} {
		if got := exactLag(behind, then[i]); got.Cmp(wanted) != 0 {
			t.Errorf("the lag of the place %d is %v", i, got)
		}
	}
}

func TestP11_3OneAlone(t *testing.T) {
	for _, p := range positions() {
		for _, by := range shifts() {
			m := mustOf(t, p.Time+by, []pos.Pos{p})
			for _, w := range weights() {
				then, ok := turns(t, p.Time+by, []pos.Pos{p}, 0, w)
				if !ok {
					t.Fatalf("%+v alone has no place with the weight %d", p, w)
				}
				if got, ok := lag.Sign(mustOf(t, p.Time+by, then), then[0]); got != 0 || !ok {
					t.Fatalf("%+v alone has a lag with the weight %d", p, w)
				}
				// The place that it is at is the same, but for what is rounded.
				far := new(big.Rat).SetFrac(distance(then[0], m.Base), number(uint64(w)))
				less(t, "it is ahead", fromTo(far, virtual(m)), new(big.Rat).SetFrac(big.NewInt(1), number(uint64(w))))
			}
		}
	}
}

func TestP11_3TurnedAndBack(t *testing.T) {
	grains := big.NewRat(2, 1)
	turnedBack := 0
	for n := 1; n <= mostN; n++ {
		for _, u := range times() {
			l := near(n, u)
			m := mustOf(t, u, l)
			for which := range l {
				there, ok := turns(t, u, l, which, weights()[(n+which)%len(weights())])
				if !ok {
					continue
				}
				back, ok := turns(t, u, there, which, l[which].W)
				if !ok {
					t.Fatalf("%+v can't be turned back from %+v", l[which], there[which])
				}
				turnedBack++
				again := mustOf(t, u, back)
				less(t, "its own lag is more", fromTo(exactLag(m, l[which]), exactLag(again, back[which])), grains)
				if again.W != m.W || again.N != m.N {
					t.Fatalf("turned and back %+v is %+v", m, again)
				}
			}
		}
	}
	if turnedBack < 1000 {
		t.Errorf("only %d were turned back", turnedBack)
	}
}

func TestP11_3NothingRounded(t *testing.T) {
	// Where the virtual time is a whole time nothing is rounded, and turned back all is as it was.
	for _, n := range []int{1, 2, 3, 7, mostN} {
		for _, u := range []vtime.Time{0, half, end - 4} {
			for _, own := range weights() {
				var l []pos.Pos
				for i := range n {
					l = append(l, at(u+vtime.Time(n*i*i), 0, own))
				}
				// All squares below n, times n, divided by n.
				now := u + vtime.Time((n-1)*n*(2*n-1)/6)
				m := mustOf(t, u-7, l)
				for which := 0; which < n; which += 1 + n/3 {
					for _, w := range weights() {
						there, ok := turns(t, u-7, l, which, w)
						turned := mustOf(t, u-7, there)
						if floor, is := turned.Floor(); !ok || !is || floor != now || virtual(turned).Cmp(virtual(m)) != 0 {
							t.Fatalf("the virtual time of %+v was %d", turned, now)
						}
						if back, _ := turns(t, u-7, there, which, own); !slices.Equal(back, l) {
							t.Fatalf("turned and back %+v is %+v", l[which], back[which])
						}
					}
				}
			}
		}
	}
}

func TestP11_3ManyTurns(t *testing.T) {
	// Each turn moves a lag by less than a grain; all of them together are 0 at all times.
	for _, n := range []int{2, 3, 7, mostN} {
		var l []pos.Pos
		for i := range n {
			l = append(l, at(vtime.Time(i*i*i*1000003)-1<<24, 0, weights()[i%len(weights())]))
		}
		for i := range 300 {
			then, ok := turns(t, 0, l, i*5%n, weights()[i*3%len(weights())])
			if !ok {
				t.Fatalf("%+v isn't turned", l[i*5%n])
			}
			l = then
			m, sum := mustOf(t, 0, l), new(big.Rat)
			for _, p := range l {
				sum.Add(sum, exactLag(m, p))
			}
			if sum.Sign() != 0 {
				t.Fatalf("all lags together are %v", sum)
			}
		}
	}
}
