package set_test

import (
	"math"
	"slices"
	"testing"

	"turnstone/api"
	"turnstone/item"
	"turnstone/pos"
	"turnstone/queue"
	"turnstone/req"
	"turnstone/set"
	"turnstone/vtime"
)

const (
	end       = vtime.Time(math.MaxUint64)
	half      = vtime.Time(1 << 63)
	most      = 1 << 62
	mostW     = 1 << 20
	mostN     = 32
	mostSlice = 1 << 40
	farthest  = 1 << 60
)

// origins: wherever times begin, all that is told is the same; what lies near most of these goes round.
func origins() []vtime.Time {
	return []vtime.Time{0, end, half, half - 1, most, 3 << 62, 88172645463325252}
}

func at(t vtime.Time, r, w uint32) pos.Pos { return pos.Pos{Time: t, R: r, W: w} }

// of is a request of which some is left, whether it may be or not.
func of(id int, p pos.Pos, left, slice uint64) req.Req {
	dead, _ := p.Move(left << 20)
	return req.Req{Item: item.Item{Pos: p, ID: id, Dead: dead}, Left: left, Slice: slice}
}

// whole is a request of weight 1, all of which is left.
func whole(id int, time vtime.Time, slice uint64) req.Req {
	return of(id, at(time, 0, 1), slice, slice)
}

func asleep(r req.Req) req.Req {
	r.Asleep = true
	return r
}

func shifted(by vtime.Time, r req.Req) req.Req {
	r.Item = r.Shift(by)
	return r
}

// A model is a queue of the items, which layer 14 tells all of, and a list of requests in the order in which they came.
type model struct {
	q *queue.Queue
	l []req.Req
}

func (m model) clone() model { return model{m.q.Clone(), slices.Clone(m.l)} }

func (m model) find(id int) int {
	return slices.IndexFunc(m.l, func(r req.Req) bool { return r.ID == id })
}

func (m *model) enter(r req.Req) api.Errno {
	if !r.Right() {
		return api.ErrArg
	}
	e := m.q.Join(r.Item)
	if e == api.OK {
		m.l = append(m.l, r)
	}
	return e
}

func (m *model) put(r req.Req) api.Errno {
	if !r.Right() {
		return api.ErrArg
	}
	e := m.q.Change(r.Item)
	if e == api.OK {
		m.l[m.find(r.ID)] = r
	}
	return e
}

func (m *model) exit(id int) (req.Req, api.Errno) {
	i := m.find(id)
	if i < 0 {
		return req.Req{}, api.ErrNone
	}
	r := m.l[i]
	m.q.Leave(id)
	m.l = slices.Delete(m.l, i, i+1)
	return r, api.OK
}

func (m *model) rouse(id int, asleep bool) api.Errno {
	i := m.find(id)
	if i < 0 {
		return api.ErrNone
	}
	m.l[i].Asleep = asleep
	return api.OK
}

// reqs by rising IDs: the least one of those that are left is the next one.
func (m model) reqs() []req.Req {
	left := slices.Clone(m.l)
	var l []req.Req
	for len(left) > 0 {
		least := 0
		for i, r := range left {
			if r.ID < left[least].ID {
				least = i
			}
		}
		l = append(l, left[least])
		left = slices.Delete(left, least, least+1)
	}
	return l
}

func (m model) runnable() int {
	n := 0
	for _, r := range m.l {
		if !r.Asleep {
			n++
		}
	}
	return n
}

// A pair is a set, and the model that it is held against.
type pair struct {
	s *set.Set
	m model
}

func newPair(clock vtime.Time) *pair { return &pair{set.New(clock), model{q: queue.New(clock)}} }

// pairOf is one into which some requests have come.
func pairOf(t *testing.T, clock vtime.Time, l ...req.Req) *pair {
	t.Helper()
	p := newPair(clock)
	for _, r := range l {
		p.enter(t, r, api.OK)
	}
	return p
}

func (p *pair) clone() *pair { return &pair{p.s.Clone(), p.m.clone()} }

// enter, as put, exit and rouse, does so to both, and looks at all that can be told behind it.
func (p *pair) enter(t *testing.T, r req.Req, wanted api.Errno) {
	t.Helper()
	if got, is := p.s.Enter(r), p.m.enter(r); got != is || got != wanted {
		t.Fatalf("%+v enters %+v: %d, by the model %d, wanted %d", r, p.m.l, got, is, wanted)
	}
	p.check(t)
}

func (p *pair) put(t *testing.T, r req.Req, wanted api.Errno) {
	t.Helper()
	if got, is := p.s.Put(r), p.m.put(r); got != is || got != wanted {
		t.Fatalf("%+v is put in %+v: %d, by the model %d, wanted %d", r, p.m.l, got, is, wanted)
	}
	p.check(t)
}

func (p *pair) exit(t *testing.T, id int, wanted api.Errno) {
	t.Helper()
	got, e := p.s.Exit(id)
	if r, is := p.m.exit(id); got != r || e != is || e != wanted {
		t.Fatalf("%d leaves: %+v, %d, wanted %+v, %d", id, got, e, r, wanted)
	}
	p.check(t)
}

func (p *pair) rouse(t *testing.T, id int, asleep bool, wanted api.Errno) {
	t.Helper()
	if got, is := p.s.Rouse(id, asleep), p.m.rouse(id, asleep); got != is || got != wanted {
		t.Fatalf("%d is asleep (%v) in %+v: %d, by the model %d, wanted %d", id, asleep, p.m.l, got, is, wanted)
	}
	p.check(t)
}

// check holds all that a set tells against its model.
func (p *pair) check(t *testing.T) {
	t.Helper()
	if got, wanted := p.s.Reqs(), p.m.reqs(); !slices.Equal(got, wanted) {
		t.Fatalf("the requests %+v, wanted %+v", got, wanted)
	}
	if got := p.s.Runnable(); got != p.m.runnable() {
		t.Fatalf("of %+v %d are runnable", p.m.l, got)
	}
	for id := -1; id <= 45; id++ {
		p.checkOne(t, id)
	}
	for _, r := range p.m.l {
		p.checkOne(t, r.ID)
	}
	sameQueue(t, p.s.Queue, p.m.q)
}

// checkOne: what is told of an ID.
func (p *pair) checkOne(t *testing.T, id int) {
	t.Helper()
	got, ok := p.s.Req(id)
	var wanted req.Req
	i := p.m.find(id)
	if i >= 0 {
		wanted = p.m.l[i]
	}
	if got != wanted || ok != (i >= 0) {
		t.Fatalf("of %d in %+v: %+v, %v", id, p.m.l, got, ok)
	}
	a, is := p.s.Get(id)
	if a != wanted.Item || is != ok {
		t.Fatalf("of %d in %+v the item is %+v, %v", id, p.m.l, a, is)
	}
}

// sameQueue: do two queues tell the same?
func sameQueue(t *testing.T, q, wanted *queue.Queue) {
	t.Helper()
	if q.Len() != wanted.Len() || !slices.Equal(q.Items(), wanted.Items()) {
		t.Fatalf("the items %+v, wanted %+v", q.Items(), wanted.Items())
	}
	if q.Now() != wanted.Now() || q.Spread() != wanted.Spread() {
		t.Fatalf("of %+v now is %d, the spread %d, wanted %d, %d", q.Items(), q.Now(), q.Spread(), wanted.Now(), wanted.Spread())
	}
	a, ok := q.Soonest()
	b, is := wanted.Soonest()
	if a != b || ok != is {
		t.Fatalf("of %+v the soonest is %+v, %v, wanted %+v, %v", q.Items(), a, ok, b, is)
	}
	for id := range 46 {
		lag, e := q.Lag(id)
		other, f := wanted.Lag(id)
		sign, g := q.Owed(id)
		turned, h := wanted.Owed(id)
		if lag != other || e != f || sign != turned || g != h {
			t.Fatalf("of %d in %+v: the lag %v, %d, wanted %v, %d", id, q.Items(), lag, sign, other, turned)
		}
	}
}

// chance: numbers without a pattern, but always the same.
func chance(seed int) func(n int) int {
	x := uint64(seed)*2 + 88172645463325253
	return func(n int) int {
		x ^= x << 13
		x ^= x >> 7
		x ^= x << 17
		return int(x >> 8 % uint64(n))
	}
}
