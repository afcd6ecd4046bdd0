package queue_test

import (
	"math"
	"math/big"
	"slices"
	"testing"

	"turnstone/api"
	"turnstone/item"
	"turnstone/mean"
	"turnstone/pos"
	"turnstone/queue"
	"turnstone/vtime"
)

const (
	end   = vtime.Time(math.MaxUint64)
	half  = vtime.Time(1 << 63)
	most  = 1 << 62
	mostW = 1 << 20
	mostN = 32
	later = 1 << 60
)

// origins: wherever times begin, all that is told is the same; what lies near most of these goes round.
func origins() []vtime.Time {
	return []vtime.Time{0, end, half, half - 1, most, 3 << 62, 88172645463325252}
}

// of is an item with a time and a rest of its position, and of its deadline.
func of(id int, w uint32, time vtime.Time, rest uint32, due vtime.Time, left uint32) item.Item {
	return item.Item{Pos: pos.Pos{Time: time, R: rest, W: w}, ID: id, Dead: pos.Pos{Time: due, R: left, W: w}}
}

// ahead is a time that much earlier.
func ahead(time, by vtime.Time) vtime.Time { return time - by }

// whole is an item of weight 1.
func whole(id int, time, due vtime.Time) item.Item { return of(id, 1, time, 0, due, 0) }

func shifted(by vtime.Time, l []item.Item) []item.Item {
	var all []item.Item
	for _, a := range l {
		all = append(all, a.Shift(by))
	}
	return all
}

func number(x uint64) *big.Int { return new(big.Int).SetUint64(x) }

// difference of two times, by numbers without bounds.
func difference(t, u vtime.Time) *big.Int {
	d := new(big.Int).Sub(number(uint64(t)), number(uint64(u)))
	round := new(big.Int).Lsh(big.NewInt(1), 64)
	if !d.IsInt64() && d.Sign() > 0 {
		d.Sub(d, round)
	}
	if !d.IsInt64() {
		d.Add(d, round)
	}
	return d
}

// distance of a position from a time, by numbers without bounds.
func distance(p pos.Pos, base vtime.Time) *big.Int {
	d := difference(p.Time, base)
	d.Mul(d, number(uint64(p.W)))
	return d.Add(d, number(uint64(p.R)))
}

// A model is a queue by numbers without bounds: a clock, and a list of items in no order. All is told from the first one's time.
type model struct {
	clock vtime.Time
	l     []item.Item
}

func (m model) clone() model { return model{m.clock, slices.Clone(m.l)} }

func (m model) find(id int) int {
	return slices.IndexFunc(m.l, func(a item.Item) bool { return a.ID == id })
}

func (m model) without(id int) model {
	m.l = slices.DeleteFunc(slices.Clone(m.l), func(a item.Item) bool { return a.ID == id })
	return m
}

// sums: all distances together, and all weights.
func (m model) sums() (far, weights *big.Int) {
	far, weights = new(big.Int), new(big.Int)
	for _, a := range m.l {
		far.Add(far, distance(a.Pos, m.l[0].Time))
		weights.Add(weights, number(uint64(a.W)))
	}
	return far, weights
}

func (m model) now() vtime.Time {
	if len(m.l) == 0 {
		return m.clock
	}
	far, weights := m.sums()
	// Of a divisor above 0 Div rounds down.
	far.Div(far, weights)
	far.Add(far, number(uint64(m.l[0].Time)))
	return vtime.Time(far.Mod(far, new(big.Int).Lsh(big.NewInt(1), 64)).Uint64())
}

// place of a position, from the first one's time: any fraction.
func (m model) place(p pos.Pos) *big.Rat {
	return new(big.Rat).SetFrac(distance(p, m.l[0].Time), number(uint64(p.W)))
}

// lag of an item: any fraction.
func (m model) lag(a item.Item) *big.Rat {
	owed := new(big.Rat).SetFrac(m.sums())
	owed.Sub(owed, m.place(a.Pos))
	return owed.Mul(owed, new(big.Rat).SetInt64(int64(a.W)))
}

func (m model) ahead(a, b item.Item) bool {
	held := m.place(a.Pos).Cmp(m.place(b.Pos))
	return held < 0 || held == 0 && a.ID < b.ID
}

func (m model) due(a, b item.Item) bool {
	held := m.place(a.Dead).Cmp(m.place(b.Dead))
	return held < 0 || held == 0 && m.ahead(a, b)
}

func (m model) items() []item.Item {
	return slices.SortedFunc(slices.Values(m.l), func(a, b item.Item) int {
		if m.ahead(a, b) {
			return -1
		}
		return 1
	})
}

// soonest: of those whose lag isn't below 0.
func (m model) soonest() (item.Item, bool) {
	var first item.Item
	some := false
	for _, a := range m.l {
		if m.lag(a).Sign() >= 0 && (!some || m.due(a, first)) {
			first, some = a, true
		}
	}
	return first, some
}

// spread is what layer 5 says of one.
func spread(base vtime.Time, l []item.Item) *big.Int {
	if len(l) == 0 {
		return new(big.Int)
	}
	least, greatest := difference(l[0].Time, base), difference(l[0].Time, base)
	for _, a := range l {
		place, due := difference(a.Time, base), difference(a.Dead.Time, base)
		if place.Cmp(least) < 0 {
			least = place
		}
		for _, d := range []*big.Int{place, due} {
			if d.Cmp(greatest) > 0 {
				greatest = d
			}
		}
	}
	return new(big.Int).Sub(greatest, least)
}

// holdsAlso: are all within with one more?
func (m model) holdsAlso(a item.Item) bool {
	base := m.now()
	if len(m.l) == 0 {
		base = a.Time
	}
	return spread(base, append(slices.Clone(m.l), a)).Cmp(big.NewInt(most)) <= 0
}

func mayBe(a item.Item) bool {
	place := a.W >= 1 && a.W <= mostW && a.R < a.W
	due := a.Dead.W == a.W && a.Dead.R < a.W
	wait := difference(a.Dead.Time, a.Time)
	return place && due && a.ID > 0 && wait.Sign() >= 0 && wait.Cmp(big.NewInt(later)) <= 0
}

func (m *model) join(a item.Item) api.Errno {
	switch {
	case !mayBe(a):
		return api.ErrArg
	case m.find(a.ID) >= 0:
		return api.ErrThere
	case len(m.l) == mostN:
		return api.ErrFull
	case !m.holdsAlso(a):
		return api.ErrSpread
	}
	m.l = append(m.l, a)
	return api.OK
}

func (m *model) leave(id int) (item.Item, api.Errno) {
	i := m.find(id)
	if i < 0 {
		return item.Item{}, api.ErrNone
	}
	a := m.l[i]
	m.clock = m.now()
	*m = m.without(id)
	return a, api.OK
}

func (m *model) change(a item.Item) api.Errno {
	others := m.without(a.ID)
	switch {
	case !mayBe(a):
		return api.ErrArg
	case m.find(a.ID) < 0:
		return api.ErrNone
	case !others.holdsAlso(a):
		return api.ErrSpread
	}
	others.l = append(others.l, a)
	*m = others
	return api.OK
}

// A pair is a queue, and the model that it is held against.
type pair struct {
	q *queue.Queue
	m model
}

func newPair(clock vtime.Time) *pair { return &pair{queue.New(clock), model{clock: clock}} }

// pairOf is one into which some items have come.
func pairOf(t *testing.T, clock vtime.Time, l ...item.Item) *pair {
	t.Helper()
	p := newPair(clock)
	for _, a := range l {
		p.join(t, a, api.OK)
	}
	return p
}

func (p *pair) clone() *pair { return &pair{p.q.Clone(), p.m.clone()} }

// join, as leave and change, does so to both, and looks at all that can be told behind it.
func (p *pair) join(t *testing.T, a item.Item, wanted api.Errno) {
	t.Helper()
	if got, is := p.q.Join(a), p.m.join(a); got != is || got != wanted {
		t.Fatalf("%+v joins %+v: %d, by the model %d, wanted %d", a, p.m.l, got, is, wanted)
	}
	p.check(t)
}

func (p *pair) leave(t *testing.T, id int, wanted api.Errno) {
	t.Helper()
	were := p.m.l
	got, e := p.q.Leave(id)
	if a, is := p.m.leave(id); got != a || e != is || e != wanted {
		t.Fatalf("%d leaves %+v: %+v, %d, wanted %+v, %d", id, were, got, e, a, wanted)
	}
	p.check(t)
}

func (p *pair) change(t *testing.T, a item.Item, wanted api.Errno) {
	t.Helper()
	were := p.m.l
	if got, is := p.q.Change(a), p.m.change(a); got != is || got != wanted {
		t.Fatalf("%+v changes in %+v: %d, by the model %d, wanted %d", a, were, got, is, wanted)
	}
	p.check(t)
}

// check holds all that a queue tells against its model.
func (p *pair) check(t *testing.T) {
	t.Helper()
	q, m := p.q, p.m
	if got := q.Len(); got != len(m.l) {
		t.Fatalf("of %+v there are %d", m.l, got)
	}
	if got := q.Items(); !slices.Equal(got, m.items()) {
		t.Fatalf("the items %+v, wanted %+v", got, m.items())
	}
	if got := q.Now(); got != m.now() {
		t.Fatalf("of %+v, and the clock %d, now is %d, wanted %d", m.l, m.clock, got, m.now())
	}
	if got, wanted := q.Spread(), spread(m.now(), m.l); wanted.Cmp(number(got)) != 0 {
		t.Fatalf("of %+v the spread is %d, wanted %v", m.l, got, wanted)
	}
	p.checkMean(t)
	for id := -1; id <= 2*mostN; id++ {
		p.checkOne(t, id)
	}
	for _, a := range m.l {
		p.checkOne(t, a.ID)
	}
	got, ok := q.Soonest()
	if wanted, is := m.soonest(); got != wanted || ok != is || is != (len(m.l) > 0) {
		t.Fatalf("of %+v the soonest is %+v, %v, wanted %+v, %v", m.items(), got, ok, wanted, is)
	}
}

// checkMean: what a queue doesn't answer itself its mean does.
func (p *pair) checkMean(t *testing.T) {
	t.Helper()
	q, m := p.q, p.m
	if !q.Right() || q.N != len(m.l) {
		t.Fatalf("of %+v the mean is %+v", m.l, q.Mean)
	}
	if len(m.l) == 0 {
		if now, ok := q.Floor(); now != 0 || ok || q.W != 0 {
			t.Fatalf("of no items the mean is %+v", q.Mean)
		}
		return
	}
	far, weights := m.sums()
	from, ok := q.Rebase(m.l[0].Time)
	wanted := mean.Mean{Base: m.l[0].Time, A: from.A, W: weights.Uint64(), N: len(m.l)}
	if !ok || from != wanted || from.A.String() != far.String() {
		t.Fatalf("of %+v the mean is %+v, wanted A %v, W %v", m.l, from, far, weights)
	}
	if now, ok := q.Floor(); !ok || now != m.now() {
		t.Fatalf("of %+v the mean's floor is %d, %v", m.l, now, ok)
	}
}

// checkOne: what is told of an ID.
func (p *pair) checkOne(t *testing.T, id int) {
	t.Helper()
	q, m := p.q, p.m
	got, ok := q.Get(id)
	owed, e := q.Lag(id)
	sign, f := q.Owed(id)
	i := m.find(id)
	if i < 0 {
		if got != (item.Item{}) || ok || owed.String() != "0" || e != api.ErrNone || sign != 0 || f != api.ErrNone {
			t.Fatalf("of %d, that isn't there: %+v, %v; %v, %d; %d, %d", id, got, ok, owed, e, sign, f)
		}
		return
	}
	wanted := m.lag(m.l[i])
	whole := new(big.Int).Div(wanted.Num(), wanted.Denom())
	if got != m.l[i] || !ok || owed.String() != whole.String() || e != api.OK || sign != wanted.Sign() || f != api.OK {
		t.Fatalf("of %d in %+v: %+v, %v; %v, %d; %d, %d, wanted the lag %v", id, m.l, got, ok, owed, e, sign, f, wanted)
	}
}

// chance: numbers without a pattern, but always the same.
func chance(seed int) func(n int) int {
	x := uint64(seed)*2 + 88172645463325253
	return func(n int) int {
		x ^= x << 13
		x ^= x >> 7
		x ^= x << 17
		return int(x >> 8 % uint64(n))
	}
}

// orders of the numbers below n, all of them.
func orders(n int) [][]int {
	if n == 0 {
		return [][]int{nil}
	}
	var l [][]int
	for _, o := range orders(n - 1) {
		for i := range n {
			l = append(l, slices.Insert(slices.Clone(o), i, n-1))
		}
	}
	return l
}
