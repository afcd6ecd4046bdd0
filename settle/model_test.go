package settle_test

import (
	"math"
	"math/big"
	"slices"
	"testing"

	"turnstone/api"
	"turnstone/item"
	"turnstone/pos"
	"turnstone/req"
	"turnstone/set"
	"turnstone/settle"
	"turnstone/vtime"
	"turnstone/wide"
)

const (
	end       = vtime.Time(math.MaxUint64)
	half      = vtime.Time(1 << 63)
	mostW     = 1 << 20
	mostN     = 32
	mostSlice = 1 << 40
	grain     = 1 << 20
)

// origins: wherever times begin, all that is told is the same; what lies near most of these goes round.
func origins() []vtime.Time {
	return []vtime.Time{0, end, half, half - 1, 1 << 62, 3 << 62, 88172645463325252}
}

func at(t vtime.Time, r, w uint32) pos.Pos { return pos.Pos{Time: t, R: r, W: w} }

// of is a request of which some is left.
func of(id int, p pos.Pos, left, slice uint64) req.Req {
	dead, _ := p.Move(left * grain)
	return req.Req{Item: item.Item{Pos: p, ID: id, Dead: dead}, Left: left, Slice: slice}
}

// whole is a request of weight 1, all of which is left.
func whole(id int, time vtime.Time, slice uint64) req.Req {
	return of(id, at(time, 0, 1), slice, slice)
}

func asleep(r req.Req) req.Req {
	r.Asleep = true
	return r
}

func shifted(by vtime.Time, r req.Req) req.Req {
	r.Item = r.Shift(by)
	return r
}

// setOf is a set into which some requests have come, each shifted.
func setOf(t *testing.T, by vtime.Time, l ...req.Req) *set.Set {
	t.Helper()
	s := set.New(by)
	for _, r := range l {
		if e := s.Enter(shifted(by, r)); e != api.OK {
			t.Fatalf("%+v enters %+v: %d", r, l, e)
		}
	}
	return s
}

// A model is the requests of a set, by rising IDs, by numbers without bounds from a time that is near to all of them.
type model struct {
	from vtime.Time
	l    []req.Req
}

func modelOf(s *set.Set) model { return model{s.Now(), s.Reqs()} }

// far: how far a position is from there, in grains.
func (m model) far(p pos.Pos) *big.Int {
	d := new(big.Int).Mul(big.NewInt(p.Since(m.from)), big.NewInt(int64(p.W)))
	return d.Add(d, big.NewInt(int64(p.R)))
}

// lag is what it is times all weights, and all weights.
func (m model) lag(p pos.Pos) (undivided, weights *big.Int) {
	all := new(big.Int)
	weights = new(big.Int)
	for _, r := range m.l {
		all.Add(all, m.far(r.Pos))
		weights.Add(weights, big.NewInt(int64(r.W)))
	}
	all.Mul(all, big.NewInt(int64(p.W)))
	return all.Sub(all, new(big.Int).Mul(weights, m.far(p))), weights
}

func (m model) eligible(r req.Req) bool {
	owed, _ := m.lag(r.Pos)
	return owed.Sign() >= 0
}

// read is the lag, rounded down.
func (m model) read(r req.Req) wide.Int {
	// Of a divisor above 0 Div rounds down.
	lag := new(big.Int).Div(m.lag(r.Pos))
	low := new(big.Int).And(lag, new(big.Int).SetUint64(math.MaxUint64))
	return wide.Int{Hi: new(big.Int).Rsh(lag, 64).Int64(), Lo: low.Uint64()}
}

// cmp of two positions by where they are, in whatever weight.
func (m model) cmp(p, q pos.Pos) int {
	return new(big.Int).Mul(m.far(p), big.NewInt(int64(q.W))).Cmp(new(big.Int).Mul(m.far(q), big.NewInt(int64(p.W))))
}

func (m model) due(a, b req.Req) bool {
	if held := m.cmp(a.Dead, b.Dead); held != 0 {
		return held < 0
	}
	if held := m.cmp(a.Pos, b.Pos); held != 0 {
		return held < 0
	}
	return a.ID < b.ID
}

// flush: of those that may go the first one of the list, which is the one of the least ID, as long as there is one.
func (m *model) flush() []settle.Gone {
	var gone []settle.Gone
	for {
		i := slices.IndexFunc(m.l, func(r req.Req) bool { return r.Asleep && m.eligible(r) })
		if i < 0 {
			return gone
		}
		gone = append(gone, settle.Gone{ID: m.l[i].ID, Lag: m.read(m.l[i]), Req: m.l[i]})
		m.l = slices.Delete(m.l, i, i+1)
	}
}

func (m *model) runs() int {
	var first req.Req
	for _, r := range m.l {
		if m.eligible(r) && (first.ID == 0 || m.due(r, first)) {
			first = r
		}
	}
	return first.ID
}

// settles holds Flush and Settle against the model, and what is left against it, too; who went is told, and who runs.
func settles(t *testing.T, s *set.Set) ([]settle.Gone, int) {
	t.Helper()
	were := s.Reqs()
	m, flushed := modelOf(s), s.Clone()
	wanted := m.flush()
	if got := settle.Flush(flushed); !slices.Equal(got, wanted) {
		t.Fatalf("of %+v there went %+v, wanted %+v", were, got, wanted)
	}
	gone, run := settle.Settle(s)
	if !slices.Equal(gone, wanted) || run != m.runs() {
		t.Fatalf("of %+v there went %+v, and %d runs, wanted %+v, %d", were, gone, run, wanted, m.runs())
	}
	if !slices.Equal(s.Reqs(), m.l) || !slices.Equal(flushed.Reqs(), m.l) {
		t.Fatalf("of %+v there are left %+v, %+v, wanted %+v", were, s.Reqs(), flushed.Reqs(), m.l)
	}
	if again, same := settle.Settle(s); len(again) != 0 || same != run {
		t.Fatalf("of %+v there went %+v again, and %d runs, wanted %d", were, again, same, run)
	}
	return gone, run
}

// chance: numbers without a pattern, but always the same.
func chance(seed int) func(n int) int {
	x := uint64(seed)*2 + 88172645463325253
	return func(n int) int {
		x ^= x << 13
		x ^= x >> 7
		x ^= x << 17
		return int(x >> 8 % uint64(n))
	}
}
