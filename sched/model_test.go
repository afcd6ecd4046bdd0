package sched_test

import (
	"maps"
	"math"
	"slices"
	"testing"

	"turnstone/api"
	"turnstone/core"
	"turnstone/limits"
	"turnstone/sched"
	"turnstone/table"
	"turnstone/vtime"
	"turnstone/wide"
)

const (
	grain     = 1 << 20
	mostW     = 1 << 20
	mostSlice = 1 << 40
	mostTick  = 1 << 40
	mostTasks = 32
	mostCores = 8
)

// origins: wherever times begin, all that is told is the same; what lies near most of these goes round.
func origins() []uint64 {
	return []uint64{0, math.MaxUint64, 1 << 63, 1<<63 - 1, 1 << 62, 3 << 62, 88172645463325252}
}

// A turn is what is asked of a system.
type turn struct {
	kind, id, core int
	w, ns          uint64
}

const (
	spawn = iota
	exit
	sleep
	wake
	weight
	slice
	migrate
	tick
	kinds
)

func spawns(core int, w, ns uint64) turn { return turn{kind: spawn, core: core, w: w, ns: ns} }

func exits(id int) turn { return turn{kind: exit, id: id} }

func sleeps(id int) turn { return turn{kind: sleep, id: id} }

func wakes(id int) turn { return turn{kind: wake, id: id} }

func weighs(id int, w uint64) turn { return turn{kind: weight, id: id, w: w} }

func slicesTo(id int, ns uint64) turn { return turn{kind: slice, id: id, ns: ns} }

func migrates(id, core int) turn { return turn{kind: migrate, id: id, core: core} }

func ticks(ns uint64) turn { return turn{kind: tick, ns: ns} }

// An answer is all that a call tells.
type answer struct {
	id     int
	events []sched.Event
	e      api.Errno
}

func (a answer) same(b answer) bool {
	return a.id == b.id && a.e == b.e && slices.Equal(a.events, b.events)
}

// take does what a turn asks for.
func (x turn) take(s *sched.System) answer {
	var a answer
	switch x.kind {
	case spawn:
		a.id, a.events, a.e = s.Spawn(x.core, x.w, x.ns)
	case exit:
		a.events, a.e = s.Exit(x.id)
	case sleep:
		a.events, a.e = s.Sleep(x.id)
	case wake:
		a.events, a.e = s.Wake(x.id)
	case weight:
		a.events, a.e = s.Weight(x.id, x.w)
	case slice:
		a.events, a.e = s.Slice(x.id, x.ns)
	case migrate:
		a.events, a.e = s.Migrate(x.id, x.core)
	case tick:
		a.events, a.e = s.Tick(x.ns)
	}
	return a
}

// A model is a map of the tasks, and a list of cores, to which the document's words are done one by one.
type model struct {
	config limits.Config
	tasks  map[int]table.Task
	cores  []*core.Core
}

func newModel(c limits.Config) model {
	m := model{config: c, tasks: map[int]table.Task{}}
	for range c.Cores {
		m.cores = append(m.cores, core.New(vtime.Time(c.Origin)))
	}
	return m
}

func (m model) clone() model {
	n := model{config: m.config, tasks: maps.Clone(m.tasks)}
	for _, c := range m.cores {
		n.cores = append(n.cores, c.Clone())
	}
	return n
}

// window is how far a lag that is kept may be from 0.
func (m model) window(slice uint64) wide.Int {
	nanos, _ := wide.Sum(wide.OfU(slice), wide.OfU(slice), wide.OfU(m.config.Tick))
	grains, _ := nanos.Mul(grain)
	return grains
}

// kept is what is kept of a lag.
func (m model) kept(lag wide.Int, slice uint64) int64 {
	most := m.window(slice)
	least, _ := most.Neg()
	if lag.Cmp(most) > 0 {
		lag = most
	}
	if lag.Cmp(least) < 0 {
		lag = least
	}
	small, _ := lag.Small()
	return small
}

// events of a report: who went sleeps from then on.
func (m model) events(k int, r core.Report) []sched.Event {
	var l []sched.Event
	for _, p := range r.Parts {
		l = append(l, sched.Event{Core: k, ID: p.ID, Ns: p.Ns, Done: p.Done})
	}
	for _, g := range r.Gone {
		l = append(l, sched.Event{Core: k, ID: g.ID, Gone: true})
		x := m.tasks[g.ID]
		x.State = 3
		x.Lag = m.kept(g.Lag, x.Slice)
		m.tasks[g.ID] = x
	}
	return l
}

// take does a turn to a clone: beside an error nothing comes of it.
func (m *model) take(x turn) answer {
	n := m.clone()
	a := n.does(x)
	if a.e != api.OK {
		return answer{e: a.e}
	}
	*m = n
	return a
}

func (m *model) does(x turn) answer {
	switch x.kind {
	case spawn:
		return m.spawn(x)
	case tick:
		return m.tick(x.ns)
	}
	task, there := m.tasks[x.id]
	if !there {
		return answer{e: api.ErrTask}
	}
	switch x.kind {
	case exit:
		return m.exit(task)
	case sleep:
		return m.sleep(task)
	case wake:
		return m.wake(task)
	case weight:
		return m.weight(task, x.w)
	case slice:
		return m.slice(task, x.ns)
	}
	return m.migrate(task, x.core)
}

func (m *model) spawn(x turn) answer {
	switch {
	case x.core < 0 || x.core >= m.config.Cores:
		return answer{e: api.ErrCore}
	case x.w == 0 || x.w > mostW || x.ns == 0 || x.ns > m.config.Slice:
		return answer{e: api.ErrRange}
	case len(m.tasks) == m.config.Tasks:
		return answer{e: api.ErrFull}
	}
	id := 1
	for m.tasks[id].ID != 0 {
		id++
	}
	m.tasks[id] = table.Task{ID: id, State: 1, Core: x.core, W: uint32(x.w), Slice: x.ns}
	r, e := m.cores[x.core].Join(id, uint32(x.w), x.ns, 0)
	return answer{id, m.events(x.core, r), e}
}

func (m *model) exit(task table.Task) answer {
	var a answer
	if task.State != 3 {
		_, r, _ := m.cores[task.Core].Leave(task.ID)
		a.events = m.events(task.Core, r)
	}
	delete(m.tasks, task.ID)
	return a
}

func (m *model) sleep(task table.Task) answer {
	if task.State != 1 {
		return answer{e: api.ErrState}
	}
	left, lag, r, _ := m.cores[task.Core].Sleep(task.ID)
	task.State = 2
	if left {
		task.State = 3
		task.Lag = m.kept(lag, task.Slice)
	}
	m.tasks[task.ID] = task
	return answer{events: m.events(task.Core, r)}
}

func (m *model) wake(task table.Task) answer {
	var r core.Report
	var e api.Errno
	switch task.State {
	case 1:
		return answer{e: api.ErrState}
	case 2:
		r, e = m.cores[task.Core].Wake(task.ID)
	case 3:
		r, e = m.cores[task.Core].Join(task.ID, task.W, task.Slice, task.Lag)
	}
	task.State = 1
	m.tasks[task.ID] = task
	return answer{events: m.events(task.Core, r), e: e}
}

func (m *model) weight(task table.Task, w uint64) answer {
	if w == 0 || w > mostW {
		return answer{e: api.ErrRange}
	}
	task.W = uint32(w)
	m.tasks[task.ID] = task
	if task.State == 3 {
		return answer{}
	}
	r, e := m.cores[task.Core].Weigh(task.ID, task.W)
	return answer{events: m.events(task.Core, r), e: e}
}

func (m *model) slice(task table.Task, ns uint64) answer {
	if ns == 0 || ns > m.config.Slice {
		return answer{e: api.ErrRange}
	}
	task.Slice = ns
	m.tasks[task.ID] = task
	if task.State == 3 {
		return answer{}
	}
	r, e := m.cores[task.Core].Slice(task.ID, ns)
	return answer{events: m.events(task.Core, r), e: e}
}

func (m *model) migrate(task table.Task, k int) answer {
	if k < 0 || k >= m.config.Cores {
		return answer{e: api.ErrCore}
	}
	if k == task.Core {
		return answer{}
	}
	var a answer
	old := task.Core
	task.Core = k
	if task.State == 3 {
		m.tasks[task.ID] = task
		return a
	}
	lag, r, _ := m.cores[old].Leave(task.ID)
	a.events = m.events(old, r)
	task.Lag = m.kept(lag, task.Slice)
	if task.State == 2 {
		task.State = 3
		m.tasks[task.ID] = task
		return a
	}
	m.tasks[task.ID] = task
	r, a.e = m.cores[k].Join(task.ID, task.W, task.Slice, task.Lag)
	a.events = append(a.events, m.events(k, r)...)
	return a
}

func (m *model) tick(ns uint64) answer {
	var a answer
	if ns == 0 || ns > m.config.Tick {
		return answer{e: api.ErrRange}
	}
	for k, c := range m.cores {
		r, e := c.Tick(ns)
		if e != api.OK {
			return answer{e: e}
		}
		a.events = append(a.events, m.events(k, r)...)
	}
	return a
}

// A pair is a system, and the model that it is held against.
type pair struct {
	s *sched.System
	m model
}

func newPair(t *testing.T, c limits.Config) *pair {
	t.Helper()
	s, e := sched.New(c)
	if e != api.OK {
		t.Fatalf("of %+v: %d", c, e)
	}
	return &pair{s, newModel(c)}
}

// pairOf is one to which some turns were done.
func pairOf(t *testing.T, c limits.Config, l ...turn) *pair {
	t.Helper()
	p := newPair(t, c)
	p.all(t, l...)
	return p
}

func (p *pair) clone() *pair { return &pair{p.s.Clone(), p.m.clone()} }

// take does a turn to both, and looks at all that can be told behind it.
func (p *pair) take(t *testing.T, x turn) answer {
	t.Helper()
	were := p.s.Tasks()
	got := x.take(p.s)
	if wanted := p.m.take(x); !got.same(wanted) {
		t.Fatalf("%+v, of %+v: %+v, wanted %+v", x, were, got, wanted)
	}
	p.check(t)
	return got
}

// do is a turn of which the error is known.
func (p *pair) do(t *testing.T, x turn, wanted api.Errno) answer {
	t.Helper()
	a := p.take(t, x)
	if a.e != wanted {
		t.Fatalf("%+v, of %+v: %d, wanted %d", x, p.s.Tasks(), a.e, wanted)
	}
	return a
}

func (p *pair) all(t *testing.T, l ...turn) {
	t.Helper()
	for _, x := range l {
		p.do(t, x, api.OK)
	}
}

func (p *pair) task(id int) table.Task {
	x, _ := p.s.Task(id)
	return x
}

// check holds all that a system tells against its model.
func (p *pair) check(t *testing.T) {
	t.Helper()
	s, m := p.s, p.m
	if s.Config() != m.config {
		t.Fatalf("the configuration is %+v, wanted %+v", s.Config(), m.config)
	}
	for id := -1; id <= mostTasks+1; id++ {
		wanted, there := m.tasks[id]
		got, e := s.Task(id)
		if got != wanted || (e == api.OK) != there || !there && e != api.ErrTask {
			t.Fatalf("the task %d is %+v, %d, wanted %+v", id, got, e, wanted)
		}
		p.checkLag(t, id)
	}
	if got := s.Tasks(); len(got) != len(m.tasks) {
		t.Fatalf("there are the tasks %+v", got)
	}
	runs := s.Runs()
	if len(runs) != len(m.cores) {
		t.Fatalf("of %d cores there run %v", len(m.cores), runs)
	}
	for k, c := range m.cores {
		if runs[k] != c.Run() {
			t.Fatalf("on %d %d runs, wanted %d", k, runs[k], c.Run())
		}
		got, e := s.Core(k)
		if e != api.OK || !alike(got, c) {
			t.Fatalf("the core %d is %+v, %d, wanted %+v", k, got, e, c)
		}
		p.checkRuns(t, k)
	}
}

func (p *pair) checkLag(t *testing.T, id int) {
	t.Helper()
	var wanted wide.Int
	f := api.ErrTask
	if x, there := p.m.tasks[id]; there && x.State == 3 {
		wanted, f = wide.Of(x.Lag), api.OK
	} else if there {
		wanted, f = p.m.cores[x.Core].Lag(id)
	}
	if got, e := p.s.Lag(id); got != wanted || e != f {
		t.Fatalf("of %d the lag is %v, %d, wanted %v, %d", id, got, e, wanted, f)
	}
}

// checkRuns: somebody runs just where a task is Runnable, and that one is; all who compete have a request, and nobody else has.
func (p *pair) checkRuns(t *testing.T, k int) {
	t.Helper()
	c, _ := p.s.Core(k)
	runnable, competing := 0, 0
	for _, x := range p.s.Tasks() {
		if x.Core != k || x.State == table.Sleeping {
			continue
		}
		competing++
		if x.State == table.Runnable {
			runnable++
		}
		if r, there := c.Req(x.ID); !there || r.Asleep != (x.State == table.Lingering) || r.W != x.W || r.Slice != x.Slice {
			t.Fatalf("of %+v the request is %+v", x, r)
		}
	}
	run := p.s.Runs()[k]
	if x := p.task(run); (run != 0) != (runnable > 0) || run != 0 && (x.State != table.Runnable || x.Core != k) {
		t.Fatalf("on %d %d runs: %+v", k, run, p.s.Tasks())
	}
	if c.Len() != competing {
		t.Fatalf("on %d there are %d requests, of %d who compete", k, c.Len(), competing)
	}
}

func alike(a, b *core.Core) bool {
	return a.Run() == b.Run() && a.Carried() == b.Carried() && a.Now() == b.Now() && slices.Equal(a.Reqs(), b.Reqs())
}

// chance: numbers without a pattern, but always the same.
func chance(seed int) func(n int) int {
	x := uint64(seed)*2 + 88172645463325253
	return func(n int) int {
		x ^= x << 13
		x ^= x >> 7
		x ^= x << 17
		return int(x >> 8 % uint64(n))
	}
}
