package account_test

import (
	"math"
	"slices"
	"testing"

	"turnstone/account"
	"turnstone/api"
	"turnstone/core"
	"turnstone/limits"
	"turnstone/sched"
)

const (
	grain     = 1 << 20
	mostW     = 1 << 20
	mostSlice = 1 << 40
	mostTick  = 1 << 40
	mostTasks = 32
	mostCores = 8
)

// origins: wherever times begin, all that is told is the same; what lies near most of these goes round.
func origins() []uint64 {
	return []uint64{0, math.MaxUint64, 1 << 63, 88172645463325252}
}

// A turn is what is asked of a book.
type turn struct {
	kind, id, core int
	w, ns          uint64
}

const (
	spawn = iota
	exit
	sleep
	wake
	weight
	slice
	migrate
	tick
	kinds
)

func spawns(core int, w, ns uint64) turn { return turn{kind: spawn, core: core, w: w, ns: ns} }

func exits(id int) turn { return turn{kind: exit, id: id} }

func sleeps(id int) turn { return turn{kind: sleep, id: id} }

func wakes(id int) turn { return turn{kind: wake, id: id} }

func weighs(id int, w uint64) turn { return turn{kind: weight, id: id, w: w} }

func slicesTo(id int, ns uint64) turn { return turn{kind: slice, id: id, ns: ns} }

func migrates(id, core int) turn { return turn{kind: migrate, id: id, core: core} }

func ticks(ns uint64) turn { return turn{kind: tick, ns: ns} }

// take does what a turn asks for; of one that spawns the ID is told, too.
func (x turn) take(b *account.Book) (int, api.Errno) {
	switch x.kind {
	case spawn:
		return b.Spawn(x.core, x.w, x.ns)
	case exit:
		return 0, b.Exit(x.id)
	case sleep:
		return 0, b.Sleep(x.id)
	case wake:
		return 0, b.Wake(x.id)
	case weight:
		return 0, b.Weight(x.id, x.w)
	case slice:
		return 0, b.Slice(x.id, x.ns)
	case migrate:
		return 0, b.Migrate(x.id, x.core)
	}
	return 0, b.Tick(x.ns)
}

// A page is what a call did that was not refused.
type page struct {
	turn
	came        int
	events      []sched.Event
	ahead, then []int
}

// A model is a system, and all that was done to it: whatever a book tells is reckoned anew from that.
type model struct {
	s     *sched.System
	pages []page
}

func (m model) clone() model { return model{m.s.Clone(), slices.Clone(m.pages)} }

func (m *model) take(x turn) (int, api.Errno) {
	var e api.Errno
	p := page{turn: x, ahead: m.s.Runs()}
	switch x.kind {
	case spawn:
		p.came, p.events, e = m.s.Spawn(x.core, x.w, x.ns)
	case exit:
		p.events, e = m.s.Exit(x.id)
	case sleep:
		p.events, e = m.s.Sleep(x.id)
	case wake:
		p.events, e = m.s.Wake(x.id)
	case weight:
		p.events, e = m.s.Weight(x.id, x.w)
	case slice:
		p.events, e = m.s.Slice(x.id, x.ns)
	case migrate:
		p.events, e = m.s.Migrate(x.id, x.core)
	case tick:
		p.events, e = m.s.Tick(x.ns)
	}
	if e != api.OK {
		return 0, e
	}
	p.then = m.s.Runs()
	m.pages = append(m.pages, p)
	return p.came, api.OK
}

// entry is what is told of the task that has an ID, or had it last.
func (m model) entry(id int) account.Entry {
	var x account.Entry
	for _, p := range m.pages {
		if p.kind == spawn && p.came == id {
			x = account.Entry{}
		}
		for _, v := range p.events {
			switch {
			case v.ID != id:
			case v.Gone:
				x.Gone++
			default:
				x.Parts++
				x.Served += v.Ns
				if v.Done {
					x.Requests++
				}
			}
		}
	}
	return x
}

func (m model) count(k int) account.Count {
	var c account.Count
	for _, p := range m.pages {
		if p.ahead[k] != p.then[k] {
			c.Switches++
		}
		if p.kind != tick {
			continue
		}
		var busy uint64
		for _, v := range p.events {
			if v.Core == k {
				busy += v.Ns
			}
		}
		c.Busy += busy
		c.Idle += p.ns - busy
	}
	return c
}

// A pair is a book, and the model that it is held against.
type pair struct {
	b *account.Book
	m model
}

func newPair(t *testing.T, c limits.Config) *pair {
	t.Helper()
	b, e := account.New(c)
	s, f := sched.New(c)
	if e != api.OK || f != api.OK {
		t.Fatalf("of %+v: %d, %d", c, e, f)
	}
	return &pair{b, model{s: s}}
}

// pairOf is one to which some turns were done.
func pairOf(t *testing.T, c limits.Config, l ...turn) *pair {
	t.Helper()
	p := newPair(t, c)
	p.all(t, l...)
	return p
}

func (p *pair) clone() *pair { return &pair{p.b.Clone(), p.m.clone()} }

// take does a turn to both, and looks at all that can be told behind it.
func (p *pair) take(t *testing.T, x turn) (int, api.Errno) {
	t.Helper()
	id, e := x.take(p.b)
	if wanted, f := p.m.take(x); id != wanted || e != f {
		t.Fatalf("%+v: %d, %d, wanted %d, %d", x, id, e, wanted, f)
	}
	p.check(t)
	return id, e
}

// do is a turn of which the error is known.
func (p *pair) do(t *testing.T, x turn, wanted api.Errno) int {
	t.Helper()
	id, e := p.take(t, x)
	if e != wanted {
		t.Fatalf("%+v, of %+v: %d, wanted %d", x, p.b.Tasks(), e, wanted)
	}
	return id
}

func (p *pair) all(t *testing.T, l ...turn) {
	t.Helper()
	for _, x := range l {
		p.do(t, x, api.OK)
	}
}

// check holds all that a book tells against its model.
func (p *pair) check(t *testing.T) {
	t.Helper()
	b, m := p.b, p.m
	config := m.s.Config()
	var all account.Entry
	for id := -1; id <= mostTasks+1; id++ {
		got, e := b.Entry(id)
		var wanted account.Entry
		f := api.ErrTask
		if id >= 1 && id <= config.Tasks {
			wanted, f = m.entry(id), api.OK
		}
		if got != wanted || e != f {
			t.Fatalf("the entry %d is %+v, %d, wanted %+v, %d", id, got, e, wanted, f)
		}
		all = account.Entry{Served: all.Served + got.Served, Requests: all.Requests + got.Requests, Parts: all.Parts + got.Parts, Gone: all.Gone + got.Gone}
	}
	var every account.Count
	for k := range config.Cores {
		got, e := b.Count(k)
		if wanted := m.count(k); got != wanted || e != api.OK {
			t.Fatalf("the count %d is %+v, %d, wanted %+v", k, got, e, wanted)
		}
		every = account.Count{Busy: every.Busy + got.Busy, Idle: every.Idle + got.Idle, Switches: every.Switches + got.Switches}
	}
	if entry, count := b.Total(); entry != all || count != every {
		t.Fatalf("all together are %+v, %+v, wanted %+v, %+v", entry, count, all, every)
	}
	p.checkSystem(t)
}

// checkSystem: what a book doesn't answer itself its system does.
func (p *pair) checkSystem(t *testing.T) {
	t.Helper()
	b, s := p.b, p.m.s
	if b.Config() != s.Config() || !slices.Equal(b.Runs(), s.Runs()) || !slices.Equal(b.Tasks(), s.Tasks()) {
		t.Fatalf("of %+v %v run, wanted %+v, %v", b.Tasks(), b.Runs(), s.Tasks(), s.Runs())
	}
	for _, x := range s.Tasks() {
		got, e := b.Lag(x.ID)
		if wanted, f := s.Lag(x.ID); got != wanted || e != f {
			t.Fatalf("of %+v the lag is %v, %d, wanted %v, %d", x, got, e, wanted, f)
		}
	}
	for k := range s.Config().Cores {
		c, _ := b.Core(k)
		if d, _ := s.Core(k); !alike(c, d) {
			t.Fatalf("the core %d is %+v, wanted %+v", k, c, d)
		}
	}
}

func alike(a, b *core.Core) bool {
	return a.Run() == b.Run() && a.Carried() == b.Carried() && a.Now() == b.Now() && slices.Equal(a.Reqs(), b.Reqs())
}

// chance: numbers without a pattern, but always the same.
func chance(seed int) func(n int) int {
	x := uint64(seed)*2 + 88172645463325253
	return func(n int) int {
		x ^= x << 13
		x ^= x >> 7
		x ^= x << 17
		return int(x >> 8 % uint64(n))
	}
}
