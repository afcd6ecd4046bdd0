package table_test

import (
	"maps"
	"slices"
	"testing"

	"turnstone/api"
	"turnstone/table"
)

const most = 32

// A model is a map of the tasks by their IDs, of which the document's words are asked one by one.
type model struct {
	room  int
	tasks map[int]table.Task
}

func (m *model) clone() *model { return &model{m.room, maps.Clone(m.tasks)} }

func (m *model) add(x table.Task) (int, api.Errno) {
	if x.State < 1 || x.State > 3 {
		return 0, api.ErrArg
	}
	for id := 1; id <= m.room; id++ {
		if _, there := m.tasks[id]; !there {
			x.ID = id
			m.tasks[id] = x
			return id, api.OK
		}
	}
	return 0, api.ErrFull
}

func (m *model) set(x table.Task) api.Errno {
	if x.State < 1 || x.State > 3 {
		return api.ErrArg
	}
	if _, there := m.tasks[x.ID]; !there {
		return api.ErrTask
	}
	m.tasks[x.ID] = x
	return api.OK
}

func (m *model) drop(id int) api.Errno {
	if _, there := m.tasks[id]; !there {
		return api.ErrTask
	}
	delete(m.tasks, id)
	return api.OK
}

func (m *model) list() []table.Task {
	var l []table.Task
	for _, id := range slices.Sorted(maps.Keys(m.tasks)) {
		l = append(l, m.tasks[id])
	}
	return l
}

func (m *model) states(states ...uint8) []int {
	var l []int
	for _, id := range slices.Sorted(maps.Keys(m.tasks)) {
		if slices.Index(states, m.tasks[id].State) >= 0 {
			l = append(l, id)
		}
	}
	return l
}

// A pair is a table, and the model that it is held against.
type pair struct {
	t *table.Table
	m model
}

// newPair is one with room for n, which is the model's room as it is.
func newPair(n, room int) *pair {
	return &pair{table.New(n), model{room, map[int]table.Task{}}}
}

// pairOf is one with just the room for some, and these in it.
func pairOf(t *testing.T, l ...table.Task) *pair {
	t.Helper()
	p := newPair(len(l), len(l))
	for i, x := range l {
		p.add(t, x, i+1, api.OK)
	}
	return p
}

func (p *pair) clone() *pair { return &pair{p.t.Clone(), *p.m.clone()} }

// add, as set and drop, does so to both, and looks at all that can be told behind it.
func (p *pair) add(t *testing.T, x table.Task, wanted int, e api.Errno) {
	t.Helper()
	id, got := p.t.Add(x)
	if is, f := p.m.add(x); id != is || got != f || id != wanted || got != e {
		t.Fatalf("%+v comes: %d, %d, by the model %d, %d, wanted %d, %d", x, id, got, is, f, wanted, e)
	}
	p.check(t)
}

func (p *pair) set(t *testing.T, x table.Task, wanted api.Errno) {
	t.Helper()
	if got, is := p.t.Set(x), p.m.set(x); got != is || got != wanted {
		t.Fatalf("%+v is set: %d, by the model %d, wanted %d", x, got, is, wanted)
	}
	p.check(t)
}

func (p *pair) drop(t *testing.T, id int, wanted api.Errno) {
	t.Helper()
	if got, is := p.t.Drop(id), p.m.drop(id); got != is || got != wanted {
		t.Fatalf("%d is dropped: %d, by the model %d, wanted %d", id, got, is, wanted)
	}
	p.check(t)
}

// check holds all that a table tells against its model.
func (p *pair) check(t *testing.T) {
	t.Helper()
	if got, wanted := p.t.Tasks(), p.m.list(); !slices.Equal(got, wanted) {
		t.Fatalf("the tasks are %+v, wanted %+v", got, wanted)
	}
	for id := -2; id <= most+2; id++ {
		got, e := p.t.Task(id)
		wanted, there := p.m.tasks[id]
		if got != wanted || (e == api.OK) != there || !there && e != api.ErrTask {
			t.Fatalf("of %d in %+v: %+v, %d", id, p.m.list(), got, e)
		}
	}
	for _, states := range someStates() {
		if got, wanted := p.t.States(states...), p.m.states(states...); !slices.Equal(got, wanted) {
			t.Fatalf("in the states %v of %+v: %v, wanted %v", states, p.m.list(), got, wanted)
		}
	}
}

// someStates: such lists among them as have none, one twice, and one that isn't any.
func someStates() [][]uint8 {
	return [][]uint8{
		nil, {}, {1}, {2}, {3}, {1, 2}, {2, 1}, {1, 3}, {3, 2}, {1, 2, 3}, {3, 2, 1}, {2, 2}, {3, 1, 3, 1},
		{0}, {0, 0}, {4}, {255}, {0, 1}, {4, 2, 255}, {0, 1, 2, 3, 4},
	}
}

// chance: numbers without a pattern, but always the same.
func chance(seed int) func(n int) int {
	x := uint64(seed)*2 + 88172645463325253
	return func(n int) int {
		x ^= x << 13
		x ^= x >> 7
		x ^= x << 17
		return int(x >> 8 % uint64(n))
	}
}
