package lag_test

import (
	"math"
	"math/big"
	"slices"
	"testing"

	"turnstone/lag"
	"turnstone/mean"
	"turnstone/pos"
	"turnstone/vtime"
	"turnstone/wide"
)

const (
	end      = vtime.Time(math.MaxUint64)
	half     = vtime.Time(1 << 63)
	mostW    = 1 << 20
	mostN    = 32
	mostWord = math.MaxUint32
	grain    = 1 << 20
)

var (
	least    = wide.Int{Hi: math.MinInt64}
	greatest = wide.Int{Hi: math.MaxInt64, Lo: math.MaxUint64}
)

func times() []vtime.Time {
	return []vtime.Time{0, 1, 5, 1 << 40, 1 << 62, half - 1, half, half + 1, 3 << 62, end - 4, end, 88172645463325252}
}

func number(x uint64) *big.Int { return new(big.Int).SetUint64(x) }

func value(a wide.Int) *big.Int {
	v := new(big.Int).Lsh(big.NewInt(a.Hi), 64)
	return v.Add(v, number(a.Lo))
}

// ofNumber is the wide number that is so great, if there is one.
func ofNumber(v *big.Int) (wide.Int, bool) {
	if v.Cmp(value(least)) < 0 || v.Cmp(value(greatest)) > 0 {
		return wide.Int{}, false
	}
	hi, lo := new(big.Int).DivMod(v, new(big.Int).Lsh(big.NewInt(1), 64), new(big.Int))
	return wide.Int{Hi: hi.Int64(), Lo: lo.Uint64()}, true
}

func isWide(v *big.Int) bool {
	_, ok := ofNumber(v)
	return ok
}

func mustWide(t *testing.T, v *big.Int) wide.Int {
	t.Helper()
	a, ok := ofNumber(v)
	if !ok {
		t.Fatalf("%v is no wide number", v)
	}
	return a
}

// difference of two times, by numbers without bounds.
func difference(t, u vtime.Time) *big.Int {
	d := new(big.Int).Sub(number(uint64(t)), number(uint64(u)))
	round := new(big.Int).Lsh(big.NewInt(1), 64)
	if !d.IsInt64() && d.Sign() > 0 {
		d.Sub(d, round)
	}
	if !d.IsInt64() {
		d.Add(d, round)
	}
	return d
}

// distance is what layer 4 says of one, by numbers without bounds.
func distance(p pos.Pos, base vtime.Time) *big.Int {
	d := difference(p.Time, base)
	d.Mul(d, number(uint64(p.W)))
	return d.Add(d, number(uint64(p.R)))
}

func mayBePos(p pos.Pos) bool { return p.W >= 1 && p.W <= mostW && p.R < p.W }

// mayBe is what layer 8 says of a mean of some positions.
func mayBe(m mean.Mean) bool {
	return m.N >= 1 && m.N <= mostN && m.W >= uint64(m.N) && m.W <= uint64(m.N)*mostW
}

// owed is what the document says of a lag times W(m), by numbers without bounds; false, where it says that there is none.
func owed(m mean.Mean, p pos.Pos) (*big.Int, bool) {
	if !mayBe(m) || !mayBePos(p) {
		return new(big.Int), false
	}
	share := new(big.Int).Mul(value(m.A), number(uint64(p.W)))
	had := new(big.Int).Mul(distance(p, m.Base), number(m.W))
	less := new(big.Int).Sub(share, had)
	if !isWide(share) || !isWide(had) || !isWide(less) {
		return new(big.Int), false
	}
	return less, true
}

// read is what the document says of Read, by numbers without bounds.
func read(t *testing.T, m mean.Mean, p pos.Pos) (wide.Int, bool) {
	t.Helper()
	far, ok := owed(m, p)
	if !ok {
		return wide.Int{}, false
	}
	// Of a divisor above 0 Div rounds down.
	return mustWide(t, far.Div(far, number(m.W))), true
}

// check holds all that is told of one position against what the document says.
func check(t *testing.T, m mean.Mean, p pos.Pos) {
	t.Helper()
	far, is := owed(m, p)
	wanted, _ := read(t, m, p)
	if got, ok := lag.Read(m, p); got != wanted || ok != is {
		t.Fatalf("lag of %+v in %+v: %s, %v, wanted %s, %v", p, m, got, ok, wanted, is)
	}
	if got, ok := lag.Sign(m, p); got != far.Sign() || ok != is {
		t.Fatalf("sign of %+v in %+v: %d, %v, wanted %d, %v", p, m, got, ok, far.Sign(), is)
	}
	if got := lag.Eligible(m, p); got != (is && far.Sign() >= 0) {
		t.Fatalf("eligible %+v in %+v: %v", p, m, got)
	}
}

func at(t vtime.Time, r, w uint32) pos.Pos { return pos.Pos{Time: t, R: r, W: w} }

// positions that may be, at all times, of all kinds of weight.
func positions() []pos.Pos {
	var l []pos.Pos
	for i, u := range times() {
		for j, w := range []uint32{1, 2, 3, 7, 1 << 10, 1<<20 - 1, mostW} {
			l = append(l, at(u, uint32(i+j)*(w/3)%w, w), at(u, w-1, w))
		}
	}
	return l
}

// wrongPositions may not be.
func wrongPositions() []pos.Pos {
	return []pos.Pos{{}, at(5, 0, 0), at(5, 1, 0), at(5, 1, 1), at(5, 3, 3), at(5, mostW, mostW), at(5, 0, mostW+1), at(5, 0, mostWord), at(5, mostWord, mostWord), at(5, mostWord, 1)}
}

// wrongMeans may not be, or are of no position.
func wrongMeans() []mean.Mean {
	return []mean.Mean{
		{}, {Base: end}, {A: wide.Of(1)}, {A: least}, {W: 1}, {W: math.MaxUint64}, {N: 1}, {A: wide.Of(7), N: 1},
		{W: mostW + 1, N: 1}, {W: 1, N: 2}, {W: 2*mostW + 1, N: 2}, {W: mostN - 1, N: mostN}, {W: mostN*mostW + 1, N: mostN},
		{W: mostN + 1, N: mostN + 1}, {W: mostN * mostW, N: mostN + 1}, {W: math.MaxUint64, N: 1}, {W: 1 << 63, N: 1},
		{N: -1}, {W: 1, N: -1}, {W: math.MaxUint64, N: -1}, {W: 1 << 63, N: math.MinInt}, {W: math.MaxInt, N: math.MaxInt},
	}
}

// near: so many positions that may be, no two further than 2^61 from one another, around that time; without a pattern, but always the same.
func near(n int, around vtime.Time) []pos.Pos {
	x := uint64(n)*2 + 88172645463325253
	next := func() uint64 {
		x ^= x << 13
		x ^= x >> 7
		x ^= x << 17
		return x
	}
	var l []pos.Pos
	for range n {
		w := uint32(1) << (next() >> 8 % 21)
		w -= uint32(next()>>8) % w / 2
		// Some lie a little from one another, and some far.
		offset := vtime.Time(next()>>(4+next()%50)) - 1<<59
		l = append(l, at(around+offset, uint32(next()>>8)%w, w))
	}
	return l
}

// mustOf is the mean of some positions.
func mustOf(t *testing.T, base vtime.Time, l []pos.Pos) mean.Mean {
	t.Helper()
	m, ok := mean.Of(base, l...)
	if !ok {
		t.Fatalf("there is no mean of %+v", l)
	}
	return m
}

func TestP9_1OfTheirOwn(t *testing.T) {
	for n := 1; n <= mostN; n++ {
		for _, u := range times() {
			l := near(n, u)
			for _, base := range times() {
				m := mustOf(t, base, l)
				for _, p := range l {
					check(t, m, p)
				}
			}
		}
	}
}

func TestP9_1OfNoneOfTheMean(t *testing.T) {
	for _, n := range []int{1, 2, 3, 31, mostN} {
		for _, u := range times() {
			for _, base := range times() {
				m := mustOf(t, base, near(n, u))
				for _, p := range positions() {
					check(t, m, p)
				}
			}
		}
	}
}

// TestP9_1Around: lags that are whole numbers, or hardly more, or less; here a lag that is rounded to another side, or a sign that is told of a rounded one, is another one.
func TestP9_1Around(t *testing.T) {
	for _, c := range []struct {
		n int
		w uint64
	}{{1, 1}, {1, 3}, {2, 7}, {1, mostW}, {mostN, mostN}, {mostN, mostN*mostW - 1}, {mostN, mostN * mostW}} {
		for _, p := range positions() {
			for _, whole := range []int64{math.MinInt64, -1 << 40, -2, -1, 0, 1, 2, 1 << 40, math.MaxInt64} {
				for more := int64(-2); more <= 2; more++ {
					// W(p) times A is what is had, so many lags, and a little.
					far := new(big.Int).Mul(number(c.w), new(big.Int).Add(distance(p, 9), big.NewInt(whole)))
					far.Div(far, number(uint64(p.W)))
					check(t, mean.Mean{Base: 9, A: mustWide(t, far.Add(far, big.NewInt(more))), W: c.w, N: c.n}, p)
				}
			}
		}
	}
}

func TestP9_1Edges(t *testing.T) {
	two := mean.Mean{Base: 5, A: wide.Of(3), W: 2, N: 2}
	for _, c := range []struct {
		what string
		m    mean.Mean
		p    pos.Pos
		sign int
		read string
		ok   bool
	}{
		{"of two, the first one", two, at(5, 0, 1), 1, "1", true},
		{"of two, the second one", two, at(8, 0, 1), -1, "-2", true},
		{"of two, another one at their middle", two, at(6, 1, 2), 0, "0", true},
		{"a little ahead of it", two, at(6, 1, 3), 1, "0", true},
		{"a little behind it", two, at(6, 2, 3), -1, "-1", true},
		{"of twice the weight", two, at(5, 0, 2), 1, "3", true},
		{"of the greatest weight", two, at(8, 0, mostW), -1, "-1572864", true},
		{"of one alone", mean.Mean{Base: 5, A: wide.Of(7), W: 3, N: 1}, at(7, 1, 3), 0, "0", true},
		{"over the end, owed", mean.Mean{Base: 2, A: wide.Of(0), W: 1, N: 1}, at(end, 0, 1), 1, "3", true},
		{"over the end, owing", mean.Mean{Base: end, A: wide.Of(0), W: 1, N: 1}, at(2, 0, 1), -1, "-3", true},
		{"as far ahead as may be", mean.Mean{Base: 0, W: 1, N: 1}, at(half, 0, 1), 1, "9223372036854775808", true},
		{"as far behind as may be", mean.Mean{Base: 0, W: 1, N: 1}, at(half-1, 0, 1), -1, "-9223372036854775807", true},
		{"that, of the greatest weights", mean.Mean{Base: 0, W: mostN * mostW, N: mostN}, at(half, 0, mostW), 1, "9671406556917033397649408", true},
		{"and behind", mean.Mean{Base: 0, W: mostN * mostW, N: mostN}, at(half-1, mostW-1, mostW), -1, "-9671406556917033397649407", true},
		{"the greatest A", mean.Mean{A: greatest, W: 1, N: 1}, at(0, 0, 1), 1, "170141183460469231731687303715884105727", true},
		{"and less", mean.Mean{A: greatest, W: 1, N: 1}, at(1, 0, 1), 1, "170141183460469231731687303715884105726", true},
		{"and more: the difference is too great", mean.Mean{A: greatest, W: 1, N: 1}, at(end, 0, 1), 0, "0", false},
		{"the least A", mean.Mean{A: least, W: 1, N: 1}, at(0, 0, 1), -1, "-170141183460469231731687303715884105728", true},
		{"and more", mean.Mean{A: least, W: 1, N: 1}, at(end, 0, 1), -1, "-170141183460469231731687303715884105727", true},
		{"and less: the difference is too small", mean.Mean{A: least, W: 1, N: 1}, at(1, 0, 1), 0, "0", false},
		{"less by what is left alone", mean.Mean{A: wide.Int{Hi: -1 << 62}, W: 1, N: 1}, at(0, 1, 2), 0, "0", false},
		{"less by what is left alone, and all weights", mean.Mean{A: wide.Int{Hi: -1 << 62, Lo: 1}, W: 3, N: 3}, at(0, 1, 2), 0, "0", false},
		{"the least product", mean.Mean{A: wide.Int{Hi: -1 << 62}, W: 2, N: 1}, at(0, 0, 2), -1, "-85070591730234615865843651857942052864", true},
		{"less than that", mean.Mean{A: wide.Int{Hi: -1<<62 - 1, Lo: math.MaxUint64}, W: 2, N: 1}, at(0, 0, 2), 0, "0", false},
		{"less than that, and the difference wouldn't be", mean.Mean{A: wide.Int{Hi: -1<<62 - 1, Lo: math.MaxUint64}, W: 2, N: 1}, at(half, 0, 2), 0, "0", false},
		{"the greatest product", mean.Mean{A: wide.Int{Hi: 1<<62 - 1, Lo: math.MaxUint64}, W: 2, N: 1}, at(0, 0, 2), 1, "85070591730234615865843651857942052863", true},
		{"more than that", mean.Mean{A: wide.Int{Hi: 1 << 62}, W: 2, N: 1}, at(0, 0, 2), 0, "0", false},
		{"more than that, and the difference wouldn't be", mean.Mean{A: wide.Int{Hi: 1 << 62}, W: 2, N: 1}, at(5, 0, 2), 0, "0", false},
		{"far more than that", mean.Mean{A: greatest, W: 2, N: 1}, at(0, 0, mostW), 0, "0", false},
		{"far less than that", mean.Mean{A: least, W: 2, N: 1}, at(0, 0, mostW), 0, "0", false},
	} {
		check(t, c.m, c.p)
		got, ok := lag.Read(c.m, c.p)
		sign, is := lag.Sign(c.m, c.p)
		if got.String() != c.read || ok != c.ok || sign != c.sign || is != c.ok || lag.Eligible(c.m, c.p) != (c.ok && c.sign >= 0) {
			t.Errorf("%s: %s, %v, the sign %d, %v", c.what, got, ok, sign, is)
		}
	}
}

func TestP9_1NoWideNumber(t *testing.T) {
	// Around the greatest and the least A by which each weight may still be multiplied, and what is had is still taken off.
	for _, w := range []uint64{1, 2, 3, mostW, mostN * mostW} {
		n := int(w+mostW-1) / mostW
		for _, p := range positions() {
			for _, edge := range []wide.Int{least, greatest} {
				for _, from := range []*big.Int{new(big.Int), new(big.Int).Mul(distance(p, 9), number(w))} {
					far := new(big.Int).Add(value(edge), from)
					far.Div(far, number(uint64(p.W)))
					for more := int64(-2); more <= 2; more++ {
						if a, ok := ofNumber(new(big.Int).Add(far, big.NewInt(more))); ok {
							check(t, mean.Mean{Base: 9, A: a, W: w, N: n}, p)
						}
					}
				}
			}
		}
	}
}

func TestP9_1Wrong(t *testing.T) {
	for _, m := range wrongMeans() {
		for _, p := range append(positions(), wrongPositions()...) {
			check(t, m, p)
		}
		if l := lag.Owed(m, append(positions(), wrongPositions()...)...); len(l) != 0 {
			t.Errorf("owed in %+v: %v", m, l)
		}
	}
	for _, p := range wrongPositions() {
		for n := 1; n <= mostN; n++ {
			m := mustOf(t, 3, near(n, 1<<40))
			check(t, m, p)
			if l := lag.Owed(m, p, p); len(l) != 0 {
				t.Errorf("owed of %+v: %v", p, l)
			}
		}
	}
}

func TestP9_1Owed(t *testing.T) {
	for _, n := range []int{1, 2, 5, mostN} {
		for _, u := range times() {
			m := mustOf(t, u+3, near(n, u))
			// Those that may not be stand among the others, and count as places.
			parts := slices.Concat(wrongPositions()[:3], near(n, u), positions(), wrongPositions(), near(mostN, u))
			var wanted []int
			for i, p := range parts {
				if far, ok := owed(m, p); ok && far.Sign() >= 0 {
					wanted = append(wanted, i)
				}
			}
			if got := lag.Owed(m, parts...); !slices.Equal(got, wanted) {
				t.Fatalf("owed in %+v: %v, wanted %v", m, got, wanted)
			}
		}
	}
}

func TestP9_1OwedEdges(t *testing.T) {
	m := mean.Mean{Base: 5, A: wide.Of(3), W: 2, N: 2}
	first, second, middle := at(5, 0, 1), at(8, 0, 1), at(6, 1, 2)
	for _, c := range []struct {
		what   string
		parts  []pos.Pos
		wanted []int
	}{
		{"of none", nil, nil},
		{"of an empty list", []pos.Pos{}, nil},
		{"the first one", []pos.Pos{first, second}, []int{0}},
		{"the second one", []pos.Pos{second, first}, []int{1}},
		{"none of them", []pos.Pos{second, second}, nil},
		{"all of them", []pos.Pos{first, first, first}, []int{0, 1, 2}},
		{"of the lag 0", []pos.Pos{second, middle, second, middle}, []int{1, 3}},
		{"beside one that may not be", []pos.Pos{{}, first, at(5, 1, 1), first}, []int{1, 3}},
		{"beside one of which no lag can be told", []pos.Pos{second, at(half, 0, mostW+1), first}, []int{2}},
	} {
		if got := lag.Owed(m, c.parts...); !slices.Equal(got, c.wanted) {
			t.Errorf("%s: %v, wanted %v", c.what, got, c.wanted)
		}
	}
	// More positions than a mean may have.
	if got := lag.Owed(m, slices.Repeat([]pos.Pos{second, first}, 1000)...); len(got) != 1000 || got[0] != 1 || got[999] != 1999 {
		t.Errorf("of 2000: %d of them", len(got))
	}
	// One of the positions is too heavy for this A.
	huge := mean.Mean{A: wide.Int{Hi: 1 << 62}, W: 2, N: 2}
	if got := lag.Owed(huge, at(0, 0, 2), at(0, 0, 1)); !slices.Equal(got, []int{1}) {
		t.Errorf("beside one whose product is no wide number: %v", got)
	}
}

func TestP9_1OwedLeavesItsPartsAlone(t *testing.T) {
	all := near(20, end)
	were := slices.Clone(all)
	m := mustOf(t, 3, all)
	got := lag.Owed(m, all[:7]...)
	wanted := slices.Clone(got)
	if !slices.Equal(all, were) {
		t.Error("its parts, or the spare room behind them, were changed")
	}
	other := lag.Owed(m, all[:7]...)
	clear(other[:cap(other)])
	clear(all)
	if !slices.Equal(got, wanted) {
		t.Errorf("%v is %v now", wanted, got)
	}
}

// same: two means, and two positions, tell the same.
func same(t *testing.T, m mean.Mean, p pos.Pos, other mean.Mean, q pos.Pos) {
	t.Helper()
	a, ok := lag.Read(m, p)
	b, is := lag.Read(other, q)
	s, _ := lag.Sign(m, p)
	r, _ := lag.Sign(other, q)
	if a != b || s != r || !ok || !is {
		t.Fatalf("of %+v in %+v: %s, %d, %v; of %+v in %+v: %s, %d, %v", p, m, a, s, ok, q, other, b, r, is)
	}
}

func TestP9_1NoBaseAndNoOrigin(t *testing.T) {
	for n := 1; n <= mostN; n++ {
		for _, u := range times() {
			l := near(n, u)
			m := mustOf(t, u, l)
			for _, by := range []vtime.Time{1, end, 1 << 61, end - 1<<61 + 1, 3 << 60, half, 12345678901234567} {
				shifted := m
				shifted.Base += by
				for _, p := range l {
					same(t, m, p, shifted, p.Shift(by))
				}
				if by == half {
					continue
				}
				from, ok := m.Rebase(u + by)
				if !ok {
					t.Fatalf("%+v has no base %d", m, u+by)
				}
				for _, p := range l {
					same(t, m, p, from, p)
				}
			}
		}
	}
}

func TestP9_2Nanos(t *testing.T) {
	size := big.NewInt(grain)
	for _, whole := range []wide.Int{
		{}, wide.Of(1), wide.Of(-1), wide.Of(7), wide.Of(-7), wide.Of(math.MaxInt64), wide.Of(math.MinInt64), wide.OfU(math.MaxUint64),
		{Hi: 1}, {Hi: -1}, {Hi: 1 << 40, Lo: 3}, {Hi: -1 << 40, Lo: 3}, {Hi: 1<<43 - 1, Lo: math.MaxUint64}, {Hi: -1 << 43},
	} {
		for _, more := range []int64{-grain - 1, -grain, -grain + 1, -1, 0, 1, grain / 2, grain - 1, grain, grain + 1} {
			v := new(big.Int).Mul(value(whole), size)
			a, ok := ofNumber(v.Add(v, big.NewInt(more)))
			if !ok {
				continue
			}
			// Of a divisor above 0 Div rounds down.
			wanted := mustWide(t, new(big.Int).Div(v, size))
			if got := lag.Nanos(a); got != wanted {
				t.Fatalf("nanos of %s: %s, wanted %s", a, got, wanted)
			}
		}
	}
}

func TestP9_2NanosEdges(t *testing.T) {
	for _, c := range []struct {
		lag    wide.Int
		wanted string
	}{
		{wide.Int{}, "0"},
		{wide.Of(1), "0"},
		{wide.Of(-1), "-1"},
		{wide.Of(grain - 1), "0"},
		{wide.Of(grain), "1"},
		{wide.Of(grain + 1), "1"},
		{wide.Of(-grain + 1), "-1"},
		{wide.Of(-grain), "-1"},
		{wide.Of(-grain - 1), "-2"},
		{wide.Of(math.MaxInt64), "8796093022207"},
		{wide.Of(math.MinInt64), "-8796093022208"},
		{wide.Int{Hi: 1}, "17592186044416"},
		{greatest, "162259276829213363391578010288127"},
		{least, "-162259276829213363391578010288128"},
	} {
		if got := lag.Nanos(c.lag); got.String() != c.wanted {
			t.Errorf("nanos of %s: %s, wanted %s", c.lag, got, c.wanted)
		}
	}
}

// together is all that Read tells of these, and what their signs are.
func together(t *testing.T, m mean.Mean, l []pos.Pos) (*big.Int, [3]int) {
	t.Helper()
	sum, signs := new(big.Int), [3]int{}
	for _, p := range l {
		a, ok := lag.Read(m, p)
		s, is := lag.Sign(m, p)
		if !ok || !is {
			t.Fatalf("no lag of %+v in %+v", p, m)
		}
		sum.Add(sum, value(a))
		signs[1+s]++
	}
	return sum, signs
}

func TestP9_3AllTogether(t *testing.T) {
	for n := 1; n <= mostN; n++ {
		for _, u := range times() {
			l := near(n, u)
			for _, by := range []vtime.Time{0, 1, end, 1 << 61, end - 1<<61 + 1, 3 << 60} {
				m := mustOf(t, u+by, l)
				sum, signs := together(t, m, l)
				// Each of them is rounded down by less than 1, and all together come from 0.
				if sum.Sign() > 0 || sum.Cmp(big.NewInt(int64(-n))) <= 0 {
					t.Fatalf("all lags in %+v are %v", m, sum)
				}
				if (signs[0] > 0) != (signs[2] > 0) {
					t.Fatalf("signs in %+v: %v", m, signs)
				}
				if got := lag.Owed(m, l...); len(got) == 0 || len(got) != signs[1]+signs[2] {
					t.Fatalf("eligible in %+v: %v of %v", m, got, signs)
				}
			}
		}
	}
}

func TestP9_3NothingRounded(t *testing.T) {
	// Of one weight, and of such times that the virtual time is one, too, all lags are whole.
	for n := 1; n <= mostN; n++ {
		for _, w := range []uint32{1, 3, 1 << 10, mostW} {
			for _, u := range times() {
				var l []pos.Pos
				for i := range n {
					l = append(l, at(u+vtime.Time(n*i*i), 0, w))
				}
				m := mustOf(t, u-7, l)
				if sum, _ := together(t, m, l); sum.Sign() != 0 {
					t.Fatalf("all lags in %+v are %v", m, sum)
				}
			}
		}
	}
}

func TestP9_3AllAlike(t *testing.T) {
	for n := 1; n <= mostN; n++ {
		for _, p := range positions() {
			l := slices.Repeat([]pos.Pos{p}, n)
			for _, base := range times() {
				m := mustOf(t, base, l)
				sum, signs := together(t, m, l)
				if sum.Sign() != 0 || signs != [3]int{0, n, 0} || len(lag.Owed(m, l...)) != n {
					t.Fatalf("of %d times %+v: %v together, %v", n, p, sum, signs)
				}
			}
		}
	}
}
