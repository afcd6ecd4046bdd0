package core_test

import (
	"math"
	"math/big"
	"slices"
	"testing"

	"turnstone/api"
	"turnstone/core"
	"turnstone/item"
	"turnstone/pos"
	"turnstone/req"
	"turnstone/settle"
	"turnstone/vtime"
	"turnstone/wide"
)

const (
	end       = vtime.Time(math.MaxUint64)
	half      = vtime.Time(1 << 63)
	most      = 1 << 62
	mostW     = 1 << 20
	mostN     = 32
	mostSlice = 1 << 40
	mostTick  = 1 << 40
	grain     = 1 << 20
)

// origins: wherever times begin, all that is told is the same; what lies near most of these goes round.
func origins() []vtime.Time {
	return []vtime.Time{0, end, half, half - 1, most, 3 << 62, 88172645463325252}
}

func number(x int64) *big.Int { return big.NewInt(x) }

func plus(a, b *big.Int) *big.Int { return new(big.Int).Add(a, b) }

func less(a, b *big.Int) *big.Int { return new(big.Int).Sub(a, b) }

func times(a, b *big.Int) *big.Int { return new(big.Int).Mul(a, b) }

// over is a quotient, rounded down (of a divisor above 0).
func over(a, b *big.Int) *big.Int { return new(big.Int).Div(a, b) }

// round is a number modulo 2^64.
func round(a *big.Int) uint64 {
	return new(big.Int).And(a, new(big.Int).SetUint64(math.MaxUint64)).Uint64()
}

func wideOf(a *big.Int) wide.Int {
	return wide.Int{Hi: new(big.Int).Rsh(a, 64).Int64(), Lo: round(a)}
}

func bigOf(a wide.Int) *big.Int {
	return plus(new(big.Int).Lsh(number(a.Hi), 64), new(big.Int).SetUint64(a.Lo))
}

// A task of a model: far is its weight times its time, which never goes round, and what is left over: it is served so many grains further.
type task struct {
	id, w, left, slice int64
	asleep             bool
	far                *big.Int
}

// dead: how far it will be when its request is done.
func (x task) dead() *big.Int { return plus(x.far, number(x.left*grain)) }

// at is a position of its weight.
func (x task) at(far *big.Int) pos.Pos {
	rest := new(big.Int)
	time, _ := new(big.Int).DivMod(far, number(x.w), rest)
	return pos.Pos{Time: vtime.Time(round(time)), R: uint32(rest.Int64()), W: uint32(x.w)}
}

func (x task) req() req.Req {
	a := item.Item{Pos: x.at(x.far), ID: int(x.id), Dead: x.at(x.dead())}
	return req.Req{Item: a, Left: uint64(x.left), Slice: uint64(x.slice), Asleep: x.asleep}
}

// A model is a core by numbers without bounds: its tasks in the order in which they came.
type model struct {
	clock   *big.Int
	l       []task
	run     int64
	carried *big.Int
}

func newModel(clock vtime.Time) model {
	return model{clock: new(big.Int).SetUint64(uint64(clock)), carried: new(big.Int)}
}

func (m model) clone() model {
	m.l = slices.Clone(m.l)
	return m
}

func (m model) find(id int) int {
	return slices.IndexFunc(m.l, func(x task) bool { return x.id == int64(id) })
}

// sums: how far all are together, and all weights.
func (m model) sums() (far, weights *big.Int) {
	far, weights = new(big.Int), new(big.Int)
	for _, x := range m.l {
		far.Add(far, x.far)
		weights.Add(weights, number(x.w))
	}
	return far, weights
}

func (m model) now() *big.Int {
	if len(m.l) == 0 {
		return m.clock
	}
	return over(m.sums())
}

// owed is a task's lag times all weights.
func (m model) owed(x task) *big.Int {
	far, weights := m.sums()
	return less(times(number(x.w), far), times(weights, x.far))
}

func (m model) lag(x task) *big.Int {
	_, weights := m.sums()
	return over(m.owed(x), weights)
}

// near: do all lie within 2^62 with each other?
func (m model) near() bool {
	var least, greatest *big.Int
	for _, x := range m.l {
		if from := over(x.far, number(x.w)); least == nil || from.Cmp(least) < 0 {
			least = from
		}
		if due := over(x.dead(), number(x.w)); greatest == nil || due.Cmp(greatest) > 0 {
			greatest = due
		}
	}
	return len(m.l) == 0 || less(greatest, least).Cmp(number(most)) <= 0
}

// held: where two places of two tasks are to one another.
func held(x task, a *big.Int, y task, b *big.Int) int {
	return times(a, number(y.w)).Cmp(times(b, number(x.w)))
}

func due(x, y task) bool {
	if h := held(x, x.dead(), y, y.dead()); h != 0 {
		return h < 0
	}
	if h := held(x, x.far, y, y.far); h != 0 {
		return h < 0
	}
	return x.id < y.id
}

func (m *model) carry(lag *big.Int) {
	m.carried = plus(m.carried, plus(new(big.Int).Abs(lag), number(2)))
}

// drop: one leaves, with the lag that it has.
func (m *model) drop(id int) *big.Int {
	i := m.find(id)
	lag := m.lag(m.l[i])
	m.clock = m.now()
	m.l = slices.Delete(m.l, i, i+1)
	m.carry(lag)
	return lag
}

// settle: who goes, and who runs.
func (m *model) settle(told *core.Report) {
	for {
		var next task
		for _, x := range m.l {
			if x.asleep && m.owed(x).Sign() >= 0 && (next.id == 0 || x.id < next.id) {
				next = x
			}
		}
		if next.id == 0 {
			break
		}
		lag := m.drop(int(next.id))
		told.Gone = append(told.Gone, settle.Gone{ID: int(next.id), Lag: wideOf(lag), Req: next.req()})
	}
	var first task
	for _, x := range m.l {
		if m.owed(x).Sign() >= 0 && (first.id == 0 || due(x, first)) {
			first = x
		}
	}
	m.run = first.id
}

// An answer is all that a call tells.
type answer struct {
	gone   bool
	lag    wide.Int
	report core.Report
	e      api.Errno
}

func (a answer) same(b answer) bool {
	return a.gone == b.gone && a.lag == b.lag && a.e == b.e &&
		slices.Equal(a.report.Gone, b.report.Gone) && slices.Equal(a.report.Parts, b.report.Parts)
}

// do does something to a clone of the model: beside an error nothing comes of it.
func (m *model) do(what func(m *model, a *answer) api.Errno) answer {
	var a answer
	n := m.clone()
	if e := what(&n, &a); e != api.OK {
		return answer{e: e}
	}
	n.settle(&a.report)
	*m = n
	return a
}

func (m *model) join(id int, w uint32, slice uint64, lag int64) answer {
	return m.do(func(m *model, _ *answer) api.Errno {
		switch {
		case id <= 0 || w == 0 || w > mostW || slice == 0 || slice > mostSlice:
			return api.ErrArg
		case m.find(id) >= 0:
			return api.ErrThere
		case len(m.l) == mostN:
			return api.ErrFull
		}
		x := task{id: int64(id), w: int64(w), left: int64(slice), slice: int64(slice)}
		if far, weights := m.sums(); len(m.l) == 0 {
			x.far = times(m.clock, number(x.w))
		} else {
			owed := times(number(lag), plus(weights, number(x.w)))
			x.far = over(less(times(far, number(x.w)), owed), weights)
		}
		m.l = append(m.l, x)
		if !m.near() {
			return api.ErrSpread
		}
		m.carry(m.lag(x))
		return api.OK
	})
}

func (m *model) leave(id int) answer {
	return m.do(func(m *model, a *answer) api.Errno {
		if m.find(id) < 0 {
			return api.ErrNone
		}
		a.lag = wideOf(m.drop(id))
		return api.OK
	})
}

func (m *model) sleep(id int) answer {
	return m.do(func(m *model, a *answer) api.Errno {
		i := m.find(id)
		switch {
		case i < 0:
			return api.ErrNone
		case m.l[i].asleep:
			return api.ErrState
		case m.owed(m.l[i]).Sign() >= 0:
			a.gone, a.lag = true, wideOf(m.drop(id))
		default:
			a.lag = wideOf(m.lag(m.l[i]))
			m.l[i].asleep = true
		}
		return api.OK
	})
}

func (m *model) wake(id int) answer {
	return m.do(func(m *model, _ *answer) api.Errno {
		i := m.find(id)
		switch {
		case i < 0:
			return api.ErrNone
		case !m.l[i].asleep:
			return api.ErrState
		}
		m.l[i].asleep = false
		return api.OK
	})
}

func (m *model) weigh(id int, w uint32) answer {
	return m.do(func(m *model, _ *answer) api.Errno {
		i := m.find(id)
		switch {
		case w == 0 || w > mostW:
			return api.ErrArg
		case i < 0:
			return api.ErrNone
		}
		m.carry(m.lag(m.l[i]))
		far, weights := m.sums()
		x := &m.l[i]
		x.far = plus(x.far, over(times(far, number(int64(w)-x.w)), weights))
		x.w = int64(w)
		if !m.near() {
			return api.ErrSpread
		}
		return api.OK
	})
}

func (m *model) slice(id int, slice uint64) answer {
	return m.do(func(m *model, _ *answer) api.Errno {
		i := m.find(id)
		switch {
		case slice == 0 || slice > mostSlice:
			return api.ErrArg
		case i < 0:
			return api.ErrNone
		}
		m.l[i].slice = int64(slice)
		return api.OK
	})
}

func (m *model) tick(ns uint64) answer {
	return m.do(func(m *model, a *answer) api.Errno {
		if ns == 0 || ns > mostTick {
			return api.ErrArg
		}
		for ns > 0 && m.run != 0 {
			x := &m.l[m.find(int(m.run))]
			served := min(x.left, int64(ns))
			x.far = plus(x.far, number(served*grain))
			x.left -= served
			part := core.Part{ID: int(x.id), Ns: uint64(served), Done: x.left == 0}
			if part.Done {
				x.left = x.slice
			}
			if !m.near() {
				return api.ErrSpread
			}
			a.report.Parts = append(a.report.Parts, part)
			m.settle(&a.report)
			ns -= uint64(served)
		}
		return api.OK
	})
}

// A turn is what is asked of a core.
type turn struct {
	kind int
	id   int
	w    uint32
	ns   uint64
	lag  int64
}

const (
	join = iota
	leave
	sleep
	wake
	weigh
	slice
	tick
	kinds
)

// take does what a turn asks for.
func (x turn) take(c *core.Core) answer {
	var a answer
	switch x.kind {
	case join:
		a.report, a.e = c.Join(x.id, x.w, x.ns, x.lag)
	case leave:
		a.lag, a.report, a.e = c.Leave(x.id)
	case sleep:
		a.gone, a.lag, a.report, a.e = c.Sleep(x.id)
	case wake:
		a.report, a.e = c.Wake(x.id)
	case weigh:
		a.report, a.e = c.Weigh(x.id, x.w)
	case slice:
		a.report, a.e = c.Slice(x.id, x.ns)
	case tick:
		a.report, a.e = c.Tick(x.ns)
	}
	return a
}

func (x turn) model(m *model) answer {
	switch x.kind {
	case join:
		return m.join(x.id, x.w, x.ns, x.lag)
	case leave:
		return m.leave(x.id)
	case sleep:
		return m.sleep(x.id)
	case wake:
		return m.wake(x.id)
	case weigh:
		return m.weigh(x.id, x.w)
	case slice:
		return m.slice(x.id, x.ns)
	}
	return m.tick(x.ns)
}

func joins(id int, w uint32, ns uint64, lag int64) turn {
	return turn{kind: join, id: id, w: w, ns: ns, lag: lag}
}

func leaves(id int) turn { return turn{kind: leave, id: id} }

func sleeps(id int) turn { return turn{kind: sleep, id: id} }

func wakes(id int) turn { return turn{kind: wake, id: id} }

func weighs(id int, w uint32) turn { return turn{kind: weigh, id: id, w: w} }

func slicesTo(id int, ns uint64) turn { return turn{kind: slice, id: id, ns: ns} }

func ticks(ns uint64) turn { return turn{kind: tick, ns: ns} }

// A pair is a core, and the model that it is held against.
type pair struct {
	c *core.Core
	m model
}

func newPair(clock vtime.Time) *pair { return &pair{core.New(clock), newModel(clock)} }

// pairOf is one to which some turns were done.
func pairOf(t *testing.T, clock vtime.Time, l ...turn) *pair {
	t.Helper()
	p := newPair(clock)
	for _, x := range l {
		p.do(t, x, api.OK)
	}
	return p
}

func (p *pair) clone() *pair { return &pair{p.c.Clone(), p.m.clone()} }

// take does a turn to both, and looks at all that can be told behind it.
func (p *pair) take(t *testing.T, x turn) answer {
	t.Helper()
	were := p.c.Reqs()
	got := x.take(p.c)
	if wanted := x.model(&p.m); !got.same(wanted) {
		t.Fatalf("%+v, of %+v: %+v, wanted %+v", x, were, got, wanted)
	}
	p.check(t)
	return got
}

// do is a turn of which the error is known.
func (p *pair) do(t *testing.T, x turn, wanted api.Errno) answer {
	t.Helper()
	a := p.take(t, x)
	if a.e != wanted {
		t.Fatalf("%+v, of %+v: %d, wanted %d", x, p.c.Reqs(), a.e, wanted)
	}
	return a
}

// check holds all that a core tells against its model.
func (p *pair) check(t *testing.T) {
	t.Helper()
	c, m := p.c, p.m
	var wanted []req.Req
	for _, x := range m.l {
		wanted = append(wanted, x.req())
	}
	slices.SortFunc(wanted, func(a, b req.Req) int { return a.ID - b.ID })
	if got := c.Reqs(); !slices.Equal(got, wanted) {
		t.Fatalf("the requests %+v, wanted %+v", got, wanted)
	}
	if c.Run() != int(m.run) {
		t.Fatalf("of %+v %d runs, wanted %d", wanted, c.Run(), m.run)
	}
	if got := c.Carried(); got != wideOf(m.carried) {
		t.Fatalf("there was carried %v, wanted %v", got, m.carried)
	}
	if got := c.Now(); uint64(got) != round(m.now()) || c.Len() != len(m.l) {
		t.Fatalf("of %+v now is %d, wanted %v", wanted, got, m.now())
	}
	for _, x := range m.l {
		if lag, e := c.Lag(int(x.id)); lag != wideOf(m.lag(x)) || e != api.OK {
			t.Fatalf("of %d in %+v the lag is %v, %d, wanted %v", x.id, wanted, lag, e, m.lag(x))
		}
	}
	p.checkRuns(t)
}

// checkRuns: as long as somebody is runnable somebody runs, who is, and is owed nothing, or more; else nobody is there.
func (p *pair) checkRuns(t *testing.T) {
	t.Helper()
	r, there := p.c.Req(p.c.Run())
	owed, _ := p.c.Owed(p.c.Run())
	if there != (p.c.Runnable() > 0) || r.Asleep || owed < 0 || !there && p.c.Len() != 0 {
		t.Fatalf("of %+v %d runs", p.c.Reqs(), p.c.Run())
	}
	for _, r := range p.c.Reqs() {
		if owed, _ := p.c.Owed(r.ID); r.Asleep && owed >= 0 {
			t.Fatalf("of %+v %d lingers yet", p.c.Reqs(), r.ID)
		}
	}
}

// chance: numbers without a pattern, but always the same.
func chance(seed int) func(n int) int {
	x := uint64(seed)*2 + 88172645463325253
	return func(n int) int {
		x ^= x << 13
		x ^= x >> 7
		x ^= x << 17
		return int(x >> 8 % uint64(n))
	}
}
