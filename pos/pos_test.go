package pos_test

import (
	"math"
	"math/big"
	"slices"
	"testing"

	"turnstone/pos"
	"turnstone/vtime"
	"turnstone/wide"
)

const (
	end       = vtime.Time(math.MaxUint64)
	half      = vtime.Time(1 << 63)
	mostW     = 1 << 20
	mostWord  = math.MaxUint32
	mostGrain = math.MaxUint64
)

func times() []vtime.Time {
	return []vtime.Time{0, 1, 5, 1 << 40, 1 << 62, half - 1, half, half + 1, 3 << 62, end - 4, end, 88172645463325252, 12297829382473034411}
}

func weights() []uint32 { return []uint32{1, 2, 3, 7, 1024, 1<<20 - 1, mostW} }

// wrongWeights: of these no position may be.
func wrongWeights() []uint32 { return []uint32{0, mostW + 1, 1 << 21, 1 << 31, mostWord} }

func number(x uint64) *big.Int { return new(big.Int).SetUint64(x) }

func value(a wide.Int) *big.Int {
	v := new(big.Int).Lsh(big.NewInt(a.Hi), 64)
	return v.Add(v, number(a.Lo))
}

// ofNumber is the wide number that is so great.
func ofNumber(v *big.Int) wide.Int {
	hi, lo := new(big.Int).DivMod(v, new(big.Int).Lsh(big.NewInt(1), 64), new(big.Int))
	return wide.Int{Hi: hi.Int64(), Lo: lo.Uint64()}
}

// modulo is the time that a number is modulo 2^64.
func modulo(v *big.Int) vtime.Time {
	return vtime.Time(new(big.Int).Mod(v, new(big.Int).Lsh(big.NewInt(1), 64)).Uint64())
}

// difference of two times, by numbers without bounds.
func difference(t, u vtime.Time) *big.Int {
	d := new(big.Int).Sub(number(uint64(t)), number(uint64(u)))
	round := new(big.Int).Lsh(big.NewInt(1), 64)
	if !d.IsInt64() && d.Sign() > 0 {
		d.Sub(d, round)
	}
	if !d.IsInt64() {
		d.Add(d, round)
	}
	return d
}

// distance is what the document says of one, by numbers without bounds.
func distance(p pos.Pos, base vtime.Time) *big.Int {
	d := difference(p.Time, base)
	d.Mul(d, number(uint64(p.W)))
	return d.Add(d, number(uint64(p.R)))
}

// at is what the document says of At, by numbers without bounds.
func at(base vtime.Time, far *big.Int, w uint32) (pos.Pos, bool) {
	if w < 1 || w > mostW {
		return pos.Pos{}, false
	}
	// Of a divisor above 0 DivMod rounds down.
	q, left := new(big.Int).DivMod(far, number(uint64(w)), new(big.Int))
	if !q.IsInt64() {
		return pos.Pos{}, false
	}
	return pos.Pos{Time: modulo(q.Add(q, number(uint64(base)))), R: uint32(left.Uint64()), W: w}, true
}

func positions() []pos.Pos {
	var l []pos.Pos
	for _, u := range times() {
		for _, w := range weights() {
			for _, r := range []uint32{0, 1, w / 2, w - 1} {
				if r < w {
					l = append(l, pos.Pos{Time: u, R: r, W: w})
				}
			}
		}
	}
	return l
}

// oddPositions may not be.
func oddPositions() []pos.Pos {
	l := []pos.Pos{{}, {Time: 5, R: 3, W: 3}, {Time: end, R: mostWord, W: 1}, {Time: half, R: mostW, W: mostW}, {Time: 7, R: mostWord, W: mostW}}
	for _, w := range wrongWeights() {
		l = append(l, pos.Pos{Time: end, R: 0, W: w}, pos.Pos{Time: half, R: 1, W: w}, pos.Pos{Time: 2, R: mostWord, W: w})
	}
	return l
}

func TestP4_1Right(t *testing.T) {
	for _, p := range positions() {
		if !p.Right() {
			t.Errorf("%+v may be, but isn't right", p)
		}
	}
	for _, p := range oddPositions() {
		if p.Right() {
			t.Errorf("%+v may not be, but is right", p)
		}
	}
	for _, c := range []struct {
		p  pos.Pos
		is bool
	}{
		{pos.Pos{Time: 5, R: 0, W: 1}, true},
		{pos.Pos{Time: 5, R: 1, W: 1}, false},
		{pos.Pos{Time: 5, R: 2, W: 3}, true},
		{pos.Pos{Time: 5, R: 3, W: 3}, false},
		{pos.Pos{Time: 5, R: 0, W: 0}, false},
		{pos.Pos{Time: 5, R: mostW - 1, W: mostW}, true},
		{pos.Pos{Time: 5, R: 0, W: mostW + 1}, false},
	} {
		if got := c.p.Right(); got != c.is {
			t.Errorf("%+v right: %v", c.p, got)
		}
	}
}

func TestP4_1Distance(t *testing.T) {
	for _, p := range append(positions(), oddPositions()...) {
		for _, base := range times() {
			if got, wanted := value(p.Distance(base)), distance(p, base); got.Cmp(wanted) != 0 {
				t.Fatalf("distance of %+v from %d: %v, wanted %v", p, base, got, wanted)
			}
		}
	}
	for _, c := range []struct {
		p      pos.Pos
		base   vtime.Time
		wanted wide.Int
	}{
		{pos.Pos{Time: 7, R: 1, W: 3}, 5, wide.Of(7)},
		{pos.Pos{Time: 5, R: 1, W: 3}, 7, wide.Of(-5)},
		{pos.Pos{Time: 5, R: 2, W: 3}, 5, wide.Of(2)},
		{pos.Pos{Time: 1, R: 0, W: 2}, end, wide.Of(4)},
		{pos.Pos{Time: end, R: 1, W: 2}, 1, wide.Of(-3)},
		{pos.Pos{Time: half, R: 1, W: 1 << 20}, 0, wide.Int{Hi: -1 << 19, Lo: 1}},
		// A distance has any Pos, also those that may not be.
		{pos.Pos{Time: 7, R: 9, W: 0}, 5, wide.Of(9)},
		{pos.Pos{Time: 7, R: 9, W: 2}, 5, wide.Of(13)},
		{pos.Pos{Time: half, R: mostWord, W: mostWord}, 0, ofNumber(distance(pos.Pos{Time: half, R: mostWord, W: mostWord}, 0))},
	} {
		if got := c.p.Distance(c.base); got != c.wanted {
			t.Errorf("distance of %+v from %d: %v, wanted %v", c.p, c.base, got, c.wanted)
		}
	}
}

func checkAt(t *testing.T, base vtime.Time, far wide.Int, w uint32) {
	t.Helper()
	got, ok := pos.At(base, far, w)
	wanted, is := at(base, value(far), w)
	if got != wanted || ok != is {
		t.Fatalf("At(%d, %v, %d): %+v, %v, wanted %+v, %v", base, value(far), w, got, ok, wanted, is)
	}
}

func TestP4_1At(t *testing.T) {
	words := []uint64{0, 1, 2, 3, 1<<19 - 1, 1 << 19, 1<<19 + 1, 1 << 62, 1<<63 - 1, 1 << 63, 1<<64 - 1<<19 - 1, 1<<64 - 1<<19, 1<<64 - 3, 1<<64 - 2, 1<<64 - 1}
	for _, base := range times() {
		for _, w := range slices.Concat(weights(), wrongWeights()) {
			for _, hi := range words {
				for _, lo := range words {
					checkAt(t, base, wide.Int{Hi: int64(hi), Lo: lo}, w)
				}
			}
		}
	}
}

func TestP4_1AtTheEnds(t *testing.T) {
	least, greatest := big.NewInt(math.MinInt64), big.NewInt(math.MaxInt64)
	for _, base := range times() {
		for _, w := range weights() {
			for _, whole := range []*big.Int{least, greatest} {
				edge := new(big.Int).Mul(whole, number(uint64(w)))
				for _, more := range []int64{-int64(w) - 1, -int64(w), -1, 0, 1, int64(w) - 1, int64(w), int64(w) + 1} {
					checkAt(t, base, ofNumber(new(big.Int).Add(edge, big.NewInt(more))), w)
				}
			}
		}
	}
	for _, c := range []struct {
		base   vtime.Time
		far    wide.Int
		w      uint32
		wanted pos.Pos
		ok     bool
	}{
		{5, wide.Of(7), 3, pos.Pos{Time: 7, R: 1, W: 3}, true},
		{0, wide.Of(-1), 2, pos.Pos{Time: end, R: 1, W: 2}, true},
		{5, wide.Int{}, 3, pos.Pos{Time: 5, W: 3}, true},
		{end, wide.Of(6), 2, pos.Pos{Time: 2, W: 2}, true},
		{0, wide.Of(1), 0, pos.Pos{}, false},
		{3, wide.Of(1), mostW, pos.Pos{Time: 3, R: 1, W: mostW}, true},
		{3, wide.Of(1), mostW + 1, pos.Pos{}, false},
		{0, wide.Of(math.MaxInt64), 1, pos.Pos{Time: half - 1, W: 1}, true},
		{0, wide.OfU(1 << 63), 1, pos.Pos{}, false},
		{0, wide.OfU(mostGrain), 2, pos.Pos{Time: half - 1, R: 1, W: 2}, true},
		{0, wide.Int{Hi: 1}, 2, pos.Pos{}, false},
		{0, wide.Of(math.MinInt64), 1, pos.Pos{Time: half, W: 1}, true},
		{0, wide.Int{Hi: -1, Lo: 1<<63 - 1}, 1, pos.Pos{}, false},
		{0, wide.Int{Hi: -1}, 2, pos.Pos{Time: half, W: 2}, true},
		{0, wide.Int{Hi: -2, Lo: mostGrain}, 2, pos.Pos{}, false},
		{0, wide.Int{Hi: math.MinInt64}, mostW, pos.Pos{}, false},
		{0, wide.Int{Hi: math.MaxInt64, Lo: mostGrain}, mostW, pos.Pos{}, false},
	} {
		if got, ok := pos.At(c.base, c.far, c.w); got != c.wanted || ok != c.ok {
			t.Errorf("At(%d, %v, %d): %+v, %v, wanted %+v, %v", c.base, c.far, c.w, got, ok, c.wanted, c.ok)
		}
	}
}

func TestP4_1AtAndDistanceAgree(t *testing.T) {
	for _, p := range positions() {
		for _, base := range times() {
			if got, ok := pos.At(base, p.Distance(base), p.W); !ok || got != p {
				t.Fatalf("%+v, by its distance from %d: %+v, %v", p, base, got, ok)
			}
		}
	}
}

func TestP4_2Move(t *testing.T) {
	amounts := []uint64{0, 1, 2, 3, 7, 1<<20 - 1, 1 << 20, 1<<20 + 1, 1 << 60, 1<<63 - 2, 1<<63 - 1, 1 << 63, 1<<63 + 1, mostGrain - 1<<20, mostGrain - 2, mostGrain - 1, mostGrain}
	// Of one that may not be, too, R and the grains are taken together.
	for _, p := range append(positions(), oddPositions()...) {
		for _, grains := range amounts {
			got, ok := p.Move(grains)
			wanted, is := at(p.Time, new(big.Int).Add(number(grains), number(uint64(p.R))), p.W)
			if got != wanted || ok != is {
				t.Fatalf("%+v, %d grains further: %+v, %v, wanted %+v, %v", p, grains, got, ok, wanted, is)
			}
		}
	}
}

func TestP4_2MoveEdges(t *testing.T) {
	for _, c := range []struct {
		p      pos.Pos
		grains uint64
		wanted pos.Pos
		ok     bool
	}{
		{pos.Pos{Time: 5, W: 3}, 7, pos.Pos{Time: 7, R: 1, W: 3}, true},
		{pos.Pos{Time: 7, R: 1, W: 3}, 2, pos.Pos{Time: 8, W: 3}, true},
		{pos.Pos{Time: 7, R: 1, W: 3}, 0, pos.Pos{Time: 7, R: 1, W: 3}, true},
		{pos.Pos{Time: end, R: 2, W: 3}, 1, pos.Pos{Time: 0, W: 3}, true},
		{pos.Pos{Time: 5, W: 1}, 1<<63 - 1, pos.Pos{Time: half + 4, W: 1}, true},
		{pos.Pos{Time: 5, W: 1}, 1 << 63, pos.Pos{}, false},
		{pos.Pos{Time: 5, W: 2}, mostGrain, pos.Pos{Time: half + 4, R: 1, W: 2}, true},
		// What is left of it brings it too far.
		{pos.Pos{Time: 5, R: 1, W: 2}, mostGrain, pos.Pos{}, false},
		// R and the grains together are more than 64 bits hold.
		{pos.Pos{Time: 5, R: mostW - 1, W: mostW}, mostGrain, pos.Pos{Time: 5 + 1<<44, R: mostW - 2, W: mostW}, true},
		{pos.Pos{Time: 5, R: 7, W: 3}, 0, pos.Pos{Time: 7, R: 1, W: 3}, true},
		{pos.Pos{}, 0, pos.Pos{}, false},
		{pos.Pos{Time: 5, R: 1}, 1, pos.Pos{}, false},
		{pos.Pos{Time: 5, R: 1, W: mostW + 1}, 1, pos.Pos{}, false},
	} {
		if got, ok := c.p.Move(c.grains); got != c.wanted || ok != c.ok {
			t.Errorf("%+v, %d grains further: %+v, %v, wanted %+v, %v", c.p, c.grains, got, ok, c.wanted, c.ok)
		}
	}
}

// held is Cmp by the document's words.
func held(p, q pos.Pos) int {
	if d := difference(q.Time, p.Time).Sign(); d != 0 {
		return -d
	}
	return big.NewRat(int64(p.R), int64(p.W)).Cmp(big.NewRat(int64(q.R), int64(q.W)))
}

func TestP4_2Cmp(t *testing.T) {
	for _, p := range positions() {
		for _, q := range positions() {
			if got, wanted := p.Cmp(q), held(p, q); got != wanted {
				t.Fatalf("%+v held against %+v: %d, wanted %d", p, q, got, wanted)
			}
		}
	}
	for _, c := range []struct {
		p, q   pos.Pos
		wanted int
	}{
		{pos.Pos{Time: 7, R: 1, W: 3}, pos.Pos{Time: 7, R: 1, W: 2}, -1},
		{pos.Pos{Time: 7, R: 1, W: 2}, pos.Pos{Time: 7, R: 1, W: 3}, 1},
		{pos.Pos{Time: 7, R: 1, W: 2}, pos.Pos{Time: 7, R: 2, W: 4}, 0},
		{pos.Pos{Time: 7, R: 0, W: 5}, pos.Pos{Time: 7, R: 0, W: 9}, 0},
		{pos.Pos{Time: 7, R: 1, W: 9}, pos.Pos{Time: 7, R: 0, W: 2}, 1},
		// The time goes ahead of what is left.
		{pos.Pos{Time: 6, R: 1, W: 2}, pos.Pos{Time: 7, R: 0, W: 2}, -1},
		{pos.Pos{Time: 7, R: 0, W: 2}, pos.Pos{Time: 6, R: 1, W: 2}, 1},
		{pos.Pos{Time: end, R: 1, W: 2}, pos.Pos{Time: 2, R: 0, W: 2}, -1},
		{pos.Pos{Time: 2, R: 0, W: 2}, pos.Pos{Time: end, R: 1, W: 2}, 1},
		{pos.Pos{Time: 0, W: 1}, pos.Pos{Time: half - 1, W: 1}, -1},
		{pos.Pos{Time: half - 1, W: 1}, pos.Pos{Time: 0, W: 1}, 1},
		// A half of the way round: the other one's difference from p's own time is -2^63.
		{pos.Pos{Time: 0, W: 1}, pos.Pos{Time: half, W: 1}, 1},
		{pos.Pos{Time: half, W: 1}, pos.Pos{Time: 0, W: 1}, 1},
		// Products of more than 32 bits.
		{pos.Pos{Time: 7, R: mostW - 2, W: mostW - 1}, pos.Pos{Time: 7, R: mostW - 1, W: mostW}, -1},
		{pos.Pos{Time: 7, R: mostW / 2, W: mostW}, pos.Pos{Time: 7, R: 1, W: 3}, 1},
	} {
		if got := c.p.Cmp(c.q); got != c.wanted {
			t.Errorf("%+v held against %+v: %d, wanted %d", c.p, c.q, got, c.wanted)
		}
	}
}

func TestP4_2Shift(t *testing.T) {
	for _, p := range append(positions(), oddPositions()...) {
		for _, by := range times() {
			wanted := pos.Pos{Time: modulo(new(big.Int).Add(number(uint64(p.Time)), number(uint64(by)))), R: p.R, W: p.W}
			if got := p.Shift(by); got != wanted {
				t.Fatalf("%+v shifted by %d: %+v, wanted %+v", p, by, got, wanted)
			}
		}
	}
	if got := (pos.Pos{Time: end, R: 1, W: 2}).Shift(3); got != (pos.Pos{Time: 2, R: 1, W: 2}) {
		t.Errorf("shifted over the end: %+v", got)
	}
}

func TestP4_3Floors(t *testing.T) {
	all := append(positions(), oddPositions()...)
	for i, p := range all {
		l := []pos.Pos{p, all[(3*i+1)%len(all)], all[(5*i+2)%len(all)], all[(7*i+3)%len(all)]}
		for n := range len(l) + 1 {
			for _, base := range times() {
				least, greatest := pos.Floors(base, l[:n]...)
				var wl, wg int64
				for j, q := range l[:n] {
					d := difference(q.Time, base).Int64()
					if j == 0 || d < wl {
						wl = d
					}
					if j == 0 || d > wg {
						wg = d
					}
				}
				if least != wl || greatest != wg {
					t.Fatalf("floors of %+v from %d: %d, %d, wanted %d, %d", l[:n], base, least, greatest, wl, wg)
				}
			}
		}
	}
}

func TestP4_3FloorsEdges(t *testing.T) {
	of := func(l ...vtime.Time) []pos.Pos {
		var m []pos.Pos
		for _, u := range l {
			m = append(m, pos.Pos{Time: u, R: 1, W: 2})
		}
		return m
	}
	for _, c := range []struct {
		base            vtime.Time
		parts           []pos.Pos
		least, greatest int64
	}{
		{6, of(7, end), -7, 1},
		{6, nil, 0, 0},
		{6, of(6), 0, 0},
		// All on one side: neither is 0.
		{6, of(9), 3, 3},
		{6, of(9, 8, 10), 2, 4},
		{6, of(3), -3, -3},
		{6, of(3, 2, 4), -4, -2},
		{end, of(1, 0, 5), 1, 6},
		{1, of(end, end-3), -5, -2},
		{0, of(half), math.MinInt64, math.MinInt64},
		{0, of(half-1, half), math.MinInt64, math.MaxInt64},
	} {
		if least, greatest := pos.Floors(c.base, c.parts...); least != c.least || greatest != c.greatest {
			t.Errorf("floors of %+v from %d: %d, %d, wanted %d, %d", c.parts, c.base, least, greatest, c.least, c.greatest)
		}
	}
}

func TestP4_4NoGrainIsLost(t *testing.T) {
	for _, p := range positions() {
		for _, parts := range [][]uint64{{0, 0}, {1, 1, 1}, {1, 2, 3, 0, 7}, {1 << 20, 1<<20 - 1, 1}, {123456789, 0, 987654321, 5}, {1 << 61, 1 << 61, 3}} {
			inParts := p
			var all uint64
			for _, grains := range parts {
				all += grains
				var ok bool
				if inParts, ok = inParts.Move(grains); !ok {
					t.Fatalf("%+v by %d: false", p, parts)
				}
				atOnce, ok := p.Move(all)
				if !ok || inParts != atOnce {
					t.Fatalf("%+v by %d: %+v in parts, %+v at once", p, parts, inParts, atOnce)
				}
				further, _ := wide.OfU(all).Add(p.Distance(p.Time))
				if got := inParts.Distance(p.Time); got != further {
					t.Fatalf("%+v by %d: its distance is %v, wanted %v", p, parts, got, further)
				}
			}
		}
	}
}

func TestP4_4WhatIsShiftedStandsAsBefore(t *testing.T) {
	all := positions()
	for i, p := range all {
		for _, by := range times() {
			q, base := all[(11*i+5)%len(all)], times()[i%len(times())]
			sp, sq, sbase := p.Shift(by), q.Shift(by), base+by
			if p.Cmp(q) != sp.Cmp(sq) || p.Distance(base) != sp.Distance(sbase) || !sp.Right() {
				t.Fatalf("%+v and %+v: shifted by %d they stand otherwise", p, q, by)
			}
			moved, ok := p.Move(12345)
			smoved, sok := sp.Move(12345)
			if !ok || !sok || smoved != moved.Shift(by) {
				t.Fatalf("%+v moved: shifted by %d it comes elsewhere", p, by)
			}
			least, greatest := pos.Floors(base, p, q)
			sleast, sgreatest := pos.Floors(sbase, sp, sq)
			if least != sleast || greatest != sgreatest {
				t.Fatalf("floors of %+v and %+v: shifted by %d they are others", p, q, by)
			}
		}
	}
}

func TestAPositionAnswersWhatItsTimeDoes(t *testing.T) {
	p := pos.Pos{Time: 2, R: 1, W: 3}
	if p.Since(end) != 3 || p.Add(-3) != end || p.Before(2) || !p.Before(3) {
		t.Errorf("%+v: its time's calls answer otherwise", p)
	}
}

func TestPositionsAreLeftAsTheyWere(t *testing.T) {
	room := []pos.Pos{{Time: 7, R: 1, W: 2}, {Time: 3, W: 1}, {Time: 9, W: 1}, {Time: 1, W: 1}}
	kept := slices.Clone(room)
	pos.Floors(5, room[:2]...)
	if !slices.Equal(room, kept) {
		t.Errorf("positions: %+v, were %+v", room, kept)
	}
}
