package vtime_test

import (
	"math"
	"math/big"
	"slices"
	"testing"

	"turnstone/vtime"
)

const (
	end  = vtime.Time(math.MaxUint64)
	half = vtime.Time(1 << 63)
)

// times: near the end and behind it, about a quarter, a half and three quarters of the way round, and some without any pattern.
func times() []vtime.Time {
	l := []vtime.Time{0, 1, 2, 3, 1000, 1<<62 - 1, 1 << 62, 1<<62 + 1, half - 2, half - 1, half, half + 1, half + 2, 3<<62 - 1, 3 << 62, 3<<62 + 1, end - 1000, end - 1, end}
	x := uint64(88172645463325252)
	for range 6 {
		x ^= x << 13
		x ^= x >> 7
		x ^= x << 17
		l = append(l, vtime.Time(x))
	}
	return l
}

func shifts() []vtime.Time { return []vtime.Time{1, 3, half - 1, half, half + 1, end - 1, end} }

func number(t vtime.Time) *big.Int { return new(big.Int).SetUint64(uint64(t)) }

// modulo is the time that a number is modulo 2^64.
func modulo(n *big.Int) vtime.Time {
	round := new(big.Int).Lsh(big.NewInt(1), 64)
	return vtime.Time(new(big.Int).Mod(n, round).Uint64())
}

// difference is what the document says of one, by numbers without bounds.
func difference(t, u vtime.Time) int64 {
	d := new(big.Int).Sub(number(t), number(u))
	round := new(big.Int).Lsh(big.NewInt(1), 64)
	if !d.IsInt64() && d.Sign() > 0 {
		d.Sub(d, round)
	}
	if !d.IsInt64() {
		d.Add(d, round)
	}
	return d.Int64()
}

func shifted(by vtime.Time, l []vtime.Time) []vtime.Time {
	var m []vtime.Time
	for _, t := range l {
		m = append(m, modulo(new(big.Int).Add(number(t), number(by))))
	}
	return m
}

func TestP3_1Add(t *testing.T) {
	for _, u := range times() {
		for _, v := range times() {
			d := int64(v)
			if got, wanted := u.Add(d), modulo(new(big.Int).Add(number(u), big.NewInt(d))); got != wanted {
				t.Errorf("%d and %d later: %d, wanted %d", u, d, got, wanted)
			}
		}
	}
	for _, c := range []struct {
		t      vtime.Time
		d      int64
		wanted vtime.Time
	}{
		{5, 3, 8},
		{5, -3, 2},
		{5, 0, 5},
		{end, 3, 2},
		{2, -3, end},
		{0, math.MinInt64, half},
		{half, math.MinInt64, 0},
		{half, math.MaxInt64, end},
		{half + 1, math.MaxInt64, 0},
	} {
		if got := c.t.Add(c.d); got != c.wanted {
			t.Errorf("%d and %d later: %d, wanted %d", c.t, c.d, got, c.wanted)
		}
	}
}

func TestP3_1Since(t *testing.T) {
	for _, u := range times() {
		for _, v := range times() {
			got := u.Since(v)
			if wanted := difference(u, v); got != wanted {
				t.Errorf("%d since %d: %d, wanted %d", u, v, got, wanted)
			}
			if back := v.Add(got); back != u {
				t.Errorf("%d since %d: %d, but that much later is %d", u, v, got, back)
			}
		}
	}
	for _, c := range []struct {
		t, u   vtime.Time
		wanted int64
	}{
		{2, end, 3},
		{end, 2, -3},
		{8, 5, 3},
		{5, 8, -3},
		{5, 5, 0},
		{end, end, 0},
		{half - 1, 0, math.MaxInt64},
		{half, 0, math.MinInt64},
		{0, half, math.MinInt64},
		{half + 1, 0, -math.MaxInt64},
		{0, half + 1, math.MaxInt64},
	} {
		if got := c.t.Since(c.u); got != c.wanted {
			t.Errorf("%d since %d: %d, wanted %d", c.t, c.u, got, c.wanted)
		}
	}
}

func TestP3_1Before(t *testing.T) {
	for _, u := range times() {
		for _, v := range times() {
			if got, wanted := u.Before(v), difference(u, v) < 0; got != wanted {
				t.Errorf("%d ahead of %d: %v", u, v, got)
			}
		}
	}
	for _, c := range []struct {
		t, u   vtime.Time
		wanted bool
	}{
		{4, 5, true},
		{5, 5, false},
		{6, 5, false},
		{end, 1, true},
		{1, end, false},
		{0, half - 1, true},
		{half - 1, 0, false},
		// A half of the way round each is ahead of the other one.
		{0, half, true},
		{half, 0, true},
	} {
		if got := c.t.Before(c.u); got != c.wanted {
			t.Errorf("%d ahead of %d: %v", c.t, c.u, got)
		}
	}
}

// ends are First and Last by the document's words, one by one.
func ends(l []vtime.Time) (first, last vtime.Time) {
	first, last = l[0], l[0]
	for _, u := range l[1:] {
		if difference(u, first) < 0 {
			first = u
		}
		if difference(last, u) < 0 {
			last = u
		}
	}
	return first, last
}

func checkEnds(t *testing.T, l ...vtime.Time) {
	t.Helper()
	first, last := ends(l)
	if got := vtime.First(l[0], l[1:]...); got != first {
		t.Errorf("first of %d: %d, wanted %d", l, got, first)
	}
	if got := vtime.Last(l[0], l[1:]...); got != last {
		t.Errorf("last of %d: %d, wanted %d", l, got, last)
	}
}

func TestP3_1FirstAndLast(t *testing.T) {
	all := times()
	for i, u := range all {
		checkEnds(t, u)
		for j, v := range all {
			checkEnds(t, u, v)
			checkEnds(t, u, v, all[(i+j+5)%len(all)])
			checkEnds(t, u, v, all[(i+2*j+3)%len(all)], all[(3*i+j+7)%len(all)])
		}
	}
}

func TestP3_1FirstAndLastEdges(t *testing.T) {
	for _, c := range []struct {
		l           []vtime.Time
		first, last vtime.Time
	}{
		{[]vtime.Time{5}, 5, 5},
		{[]vtime.Time{5, 5, 5}, 5, 5},
		{[]vtime.Time{5, 7, 3}, 3, 7},
		{[]vtime.Time{3, 5, 7}, 3, 7},
		{[]vtime.Time{7, 5, 3}, 3, 7},
		{[]vtime.Time{2, end, 1}, end, 2},
		{[]vtime.Time{end, 2, 1}, end, 2},
		{[]vtime.Time{end, end - 1, 0}, end - 1, 0},
		// A half of the way round the later one is taken, as first and as last.
		{[]vtime.Time{0, half}, half, half},
		{[]vtime.Time{half, 0}, 0, 0},
		// The third one is behind the first one, but ahead of what it is by then.
		{[]vtime.Time{0, 3 << 62, half - 1}, half - 1, half - 1},
		// Likewise for the last one: ahead of the first one, but behind what it is by then.
		{[]vtime.Time{0, 1 << 62, half + 1}, half + 1, half + 1},
		// And so it may go round.
		{[]vtime.Time{0, 1 << 62, half, 3 << 62, 0}, 0, 0},
	} {
		if got := vtime.First(c.l[0], c.l[1:]...); got != c.first {
			t.Errorf("first of %d: %d, wanted %d", c.l, got, c.first)
		}
		if got := vtime.Last(c.l[0], c.l[1:]...); got != c.last {
			t.Errorf("last of %d: %d, wanted %d", c.l, got, c.last)
		}
	}
}

func TestP3_2Spread(t *testing.T) {
	const most = 1<<62 - 1
	for _, base := range times() {
		for _, c := range []struct {
			further []int64
			wanted  uint64
		}{
			{nil, 0},
			{[]int64{0}, 0},
			{[]int64{0, 0, 0}, 0},
			{[]int64{0, 1}, 1},
			{[]int64{0, -1}, 1},
			{[]int64{0, 2, 5}, 5},
			{[]int64{0, 5, 2}, 5},
			{[]int64{0, -2, -5}, 5},
			{[]int64{0, -5, -2}, 5},
			{[]int64{0, -3, 4}, 7},
			{[]int64{0, 4, -3}, 7},
			{[]int64{0, 4, -3, 4, -3, 0, 1}, 7},
			{[]int64{0, most}, most},
			{[]int64{0, -most}, most},
			{[]int64{0, -most, most}, 2 * most},
			{[]int64{0, most, -most}, 2 * most},
			{[]int64{0, most, 1, -most, -1}, 2 * most},
		} {
			var l []vtime.Time
			for _, d := range c.further {
				l = append(l, modulo(new(big.Int).Add(number(base), big.NewInt(d))))
			}
			if got := vtime.Spread(l...); got != c.wanted {
				t.Errorf("spread of %d: %d, wanted %d", l, got, c.wanted)
			}
		}
	}
	if got := vtime.Spread(1, end, 2); got != 3 {
		t.Errorf("spread of 1, the end, and 2: %d, wanted 3", got)
	}
	if got := vtime.Spread(); got != 0 {
		t.Errorf("spread of none: %d", got)
	}
}

func TestP3_3DifferencesHangOnNoOrigin(t *testing.T) {
	for _, by := range shifts() {
		l := times()
		m := shifted(by, l)
		for i := range l {
			for j := range l {
				if l[i].Since(l[j]) != m[i].Since(m[j]) || l[i].Before(l[j]) != m[i].Before(m[j]) {
					t.Fatalf("%d from %d: shifted by %d another difference is told", l[i], l[j], by)
				}
				d := int64(l[j])
				if vtime.Time(by)+l[i].Add(d) != m[i].Add(d) {
					t.Fatalf("%d and %d later: shifted by %d another time is told", l[i], d, by)
				}
			}
		}
	}
}

func TestP3_3EndsHangOnNoOrigin(t *testing.T) {
	for _, by := range shifts() {
		for _, l := range [][]vtime.Time{{5}, {5, 7, 3}, {end, 2, 1}, {0, 3 << 62, half - 1}, {0, 1 << 62, half + 1}, times()} {
			m := shifted(by, l)
			if vtime.First(m[0], m[1:]...) != vtime.First(l[0], l[1:]...)+by {
				t.Errorf("first of %d: shifted by %d it isn't shifted alike", l, by)
			}
			if vtime.Last(m[0], m[1:]...) != vtime.Last(l[0], l[1:]...)+by {
				t.Errorf("last of %d: shifted by %d it isn't shifted alike", l, by)
			}
		}
		for _, l := range [][]vtime.Time{{5}, {5, 7, 3}, {end, 2, 1}, {0, 1<<62 - 1, 3<<62 + 1}} {
			if got, wanted := vtime.Spread(shifted(by, l)...), vtime.Spread(l...); got != wanted {
				t.Errorf("spread of %d: shifted by %d it is %d, not %d", l, by, got, wanted)
			}
		}
	}
}

func TestTimesAreLeftAsTheyWere(t *testing.T) {
	room := []vtime.Time{7, 3, 9, 1, 12}
	kept := slices.Clone(room)
	vtime.First(4, room[:3]...)
	vtime.Last(4, room[:3]...)
	vtime.Spread(room[:3]...)
	if !slices.Equal(room, kept) {
		t.Errorf("times: %d, were %d", room, kept)
	}
}
