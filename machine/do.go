package machine

import (
	"strconv"

	"turnstone/api"
	"turnstone/query"
	"turnstone/script"
)

// The commands, by their Ops.
const (
	spawn uint8 = iota
	exit
	sleep
	wake
	weight
	slice
	migrate
	tick
	task
	tasks
	cores
	runs
)

// Do: a command.
func (m *Machine) Do(c script.Command) []string {
	if m == nil {
		return nil
	}
	id := m.ID(c.On)
	switch c.Op {
	case spawn:
		return m.spawn(c)
	case exit:
		return done(m.Exit(id))
	case sleep:
		return done(m.Sleep(id))
	case wake:
		return done(m.Wake(id))
	case weight:
		return done(m.Weight(id, number(c, 0)))
	case slice:
		return done(m.Slice(id, number(c, 0)))
	case migrate:
		return done(m.Migrate(id, core(c)))
	case tick:
		return done(m.Tick(number(c, 0)))
	case task:
		row, e := query.Task(m.Book, id)
		return answer(e, query.Lines(row)...)
	case tasks:
		return query.Lines(query.Tasks(m.Book, c.States...)...)
	case cores:
		return query.CoreLines(query.Cores(m.Book)...)
	case runs:
		return answer(api.OK, numbered("runs", m.Runs()...))
	}
	return answer(api.ErrArg)
}

// spawn: who comes has the label from then on.
func (m *Machine) spawn(c script.Command) []string {
	id, e := m.Spawn(core(c), number(c, 1), number(c, 2))
	if e == api.OK {
		m.labels[c.Label] = id
	}
	return answer(e, numbered("ok", id))
}

// core is a command's first number, where that tells a core.
func core(c script.Command) int { return int(min(number(c, 0), mostNumber)) }

// number is one of a command's, by its place: where there is none it is 0.
func number(c script.Command, place int) uint64 {
	if place >= len(c.N) {
		return 0
	}
	return c.N[place]
}

// done is what is answered where there is nothing to tell.
func done(e api.Errno) []string { return answer(e, "ok") }

// answer is these lines, or, of an error, its line alone.
func answer(e api.Errno, lines ...string) []string {
	if e != api.OK {
		return []string{numbered("error", int(e))}
	}
	return lines
}

// numbered is a word, and numbers behind it.
func numbered(word string, numbers ...int) string {
	for _, n := range numbers {
		word += " " + strconv.Itoa(n)
	}
	return word
}
