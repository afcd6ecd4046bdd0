package machine_test

import (
	"fmt"
	"math"
	"math/big"
	"regexp"
	"slices"
	"strings"
	"testing"

	"turnstone/account"
	"turnstone/api"
	"turnstone/limits"
	"turnstone/machine"
	"turnstone/query"
	"turnstone/script"
)

const (
	mostW      = 1 << 20
	mostSlice  = 1 << 40
	mostTick   = 1 << 40
	mostTasks  = 32
	mostCores  = 8
	mostNumber = 1 << 30
)

// Each Op by its word, in the document's order.
const (
	spawn = iota
	exit
	sleep
	wake
	weight
	slice
	migrate
	tick
	task
	tasks
	cores
	runs
	ops
)

// origins: wherever times begin, all that is told is the same; what lies near most of these goes round.
func origins() []uint64 {
	return []uint64{0, math.MaxUint64, 1 << 63, 88172645463325252}
}

// small is a configuration of small numbers.
func small(origin uint64) limits.Config {
	return limits.Config{Cores: 2, Tasks: 5, Tick: 9, Slice: 20, Origin: origin}
}

// one is a command: a name (of spawn a label), and numbers.
func one(op uint8, on string, n ...uint64) script.Command {
	if op == spawn {
		return script.Command{Op: op, Label: on, N: n}
	}
	return script.Command{Op: op, On: on, N: n}
}

func askTasks(states ...uint8) script.Command { return script.Command{Op: tasks, States: states} }

// told is a label, and an ID that was told with it.
type told struct {
	label string
	id    int
}

// A model is a book, and all that was told with labels, the last one first.
type model struct {
	b      *account.Book
	labels []told
}

var numberName = regexp.MustCompile(`^#[0-9]+$`)

// id reads a name by numbers without bounds.
func (m *model) id(name string) int {
	if name != "" && name[0] == '#' {
		n := new(big.Int)
		if numberName.MatchString(name) {
			n.SetString(name[1:], 10)
		}
		if n.Cmp(big.NewInt(mostNumber)) > 0 {
			return 0
		}
		return int(n.Int64())
	}
	for _, x := range m.labels {
		if x.label == name {
			return x.id
		}
	}
	return 0
}

// do is what the document's words say of a command.
func (m *model) do(c script.Command) []string {
	n := append(slices.Clone(c.N), 0, 0, 0)
	id, k := m.id(c.On), int(min(n[0], mostNumber))
	var e api.Errno
	switch c.Op {
	case spawn:
		var came int
		if came, e = m.b.Spawn(k, n[1], n[2]); e == api.OK {
			m.labels = slices.Insert(m.labels, 0, told{c.Label, came})
			return []string{fmt.Sprintf("ok %d", came)}
		}
	case exit:
		e = m.b.Exit(id)
	case sleep:
		e = m.b.Sleep(id)
	case wake:
		e = m.b.Wake(id)
	case weight:
		e = m.b.Weight(id, n[0])
	case slice:
		e = m.b.Slice(id, n[0])
	case migrate:
		e = m.b.Migrate(id, k)
	case tick:
		e = m.b.Tick(n[0])
	case task:
		var row query.Row
		if row, e = query.Task(m.b, id); e == api.OK {
			return query.Lines(row)
		}
	case tasks:
		return query.Lines(query.Tasks(m.b, c.States...)...)
	case cores:
		return query.CoreLines(query.Cores(m.b)...)
	case runs:
		return []string{"runs " + strings.Trim(fmt.Sprint(m.b.Runs()), "[]")}
	default:
		e = api.ErrArg
	}
	if e != api.OK {
		return []string{fmt.Sprintf("error %d", e)}
	}
	return []string{"ok"}
}

// A pair is a machine, and the model that it is held against.
type pair struct {
	m     *machine.Machine
	model model
}

func newPair(t *testing.T, c limits.Config) *pair {
	t.Helper()
	m, e := machine.New(c)
	b, f := account.New(c)
	if e != api.OK || f != api.OK {
		t.Fatalf("of %+v: %d, %d", c, e, f)
	}
	return &pair{m, model{b: b}}
}

// do does a command to both; what they answer is the same, and what they tell behind it.
func (p *pair) do(t *testing.T, c script.Command) []string {
	t.Helper()
	was := script.Command{Line: c.Line, Op: c.Op, Label: c.Label, On: c.On, N: slices.Clone(c.N), States: slices.Clone(c.States)}
	got, wanted := p.m.Do(c), p.model.do(c)
	if !slices.Equal(got, wanted) {
		t.Fatalf("of %+v there is answered %q, wanted %q", c, got, wanted)
	}
	if !slices.Equal(c.N, was.N) || !slices.Equal(c.States, was.States) {
		t.Fatalf("the command is %+v now, and was %+v", c, was)
	}
	p.check(t)
	return got
}

// says is a command of which the lines are known.
func (p *pair) says(t *testing.T, c script.Command, wanted ...string) {
	t.Helper()
	if got := p.do(t, c); !slices.Equal(got, wanted) {
		t.Errorf("of %+v there is answered %q, wanted %q", c, got, wanted)
	}
}

// check holds what the machine tells without a command against its model.
func (p *pair) check(t *testing.T) {
	t.Helper()
	for _, name := range names() {
		if got, wanted := p.m.ID(name), p.model.id(name); got != wanted {
			t.Fatalf("%q is about %d, wanted %d", name, got, wanted)
		}
	}
	rows, wanted := query.Tasks(p.m.Book), query.Tasks(p.model.b)
	l, m := query.Cores(p.m.Book), query.Cores(p.model.b)
	if !slices.Equal(rows, wanted) || !slices.Equal(l, m) {
		t.Fatalf("there is told %+v, %+v, wanted %+v, %+v", rows, l, wanted, m)
	}
	if p.m.Config() != p.model.b.Config() {
		t.Fatalf("there is told %+v, wanted %+v", p.m.Config(), p.model.b.Config())
	}
}

// labels are those that commands without a pattern have.
func labels() []string { return []string{"a", "b", "c", "#1", "", "A", "a ", "\n", "0", "1"} }

// names: such ones among them as nobody was told with, and such ones as are numbers, or nearly.
func names() []string {
	return append(labels(), "#", "##1", "#2", "#3", "#01", "#0", "#33", "#+1", "# 1", "#1 ", "z")
}

// chance: numbers without a pattern, but always the same.
func chance(seed int) func(n int) int {
	x := uint64(seed)*2 + 88172645463325253
	return func(n int) int {
		x ^= x << 13
		x ^= x >> 7
		x ^= x << 17
		return int(x >> 8 % uint64(n))
	}
}

// commandOf is one without a pattern, that may be refused; of some a number isn't there, of some there is one more.
func commandOf(next func(n int) int, c limits.Config) script.Command {
	often := []uint8{spawn, spawn, spawn, exit, sleep, sleep, wake, wake, weight, slice, migrate, migrate, tick, tick, tick, tick, task, tasks, cores, runs, uint8(ops + next(256-ops))}
	x := script.Command{Line: next(9), Op: often[next(len(often))], Label: labels()[next(len(labels()))]}
	x.On = names()[next(len(names()))]
	if next(3) > 0 {
		x.On = fmt.Sprint("#", 1+next(c.Tasks))
	}
	k, w, ns := uint64(next(c.Cores+1)), uint64(next(8)*next(8)), uint64(next(int(c.Slice)+2))
	switch x.Op {
	case spawn:
		x.N = []uint64{k, w + 1, ns}
	case weight:
		x.N = []uint64{w}
	case slice:
		x.N = []uint64{ns}
	case migrate:
		x.N = []uint64{k}
	case tick:
		x.N = []uint64{uint64(next(int(c.Tick) + 2))}
	}
	if len(x.N) > 0 && next(12) == 0 {
		x.N = x.N[:next(len(x.N))]
	}
	if next(6) == 0 {
		x.N = append(x.N, uint64(next(9)))
	}
	for range next(4) {
		x.States = append(x.States, uint8(next(5)))
	}
	return x
}
