package sched

import (
	"turnstone/api"
	"turnstone/core"
	"turnstone/table"
	"turnstone/wide"
)

// turn is what one call does: the clone of a system to which it is done, and what there is to tell.
type turn struct {
	*System
	events []Event
}

// do does something to a clone. Where all is well the system is as the clone from then on, so beside an error nothing is half done.
func (s *System) do(what func(d *turn) api.Errno) ([]Event, api.Errno) {
	if s == nil {
		return nil, api.ErrNil
	}
	d := &turn{System: s.Clone()}
	if e := what(d); e != api.OK {
		return nil, e
	}
	// The table stays the one that it is: who has it is told what is now.
	*s.Table, s.cores = *d.Table, d.cores
	return d.events, api.OK
}

// of does something to a task that is there.
func (s *System) of(id int, what func(d *turn, x table.Task) api.Errno) ([]Event, api.Errno) {
	return s.do(func(d *turn) api.Errno {
		x, e := d.Task(id)
		if e != api.OK {
			return e
		}
		return what(d, x)
	})
}

// join: a task joins its core, with the lag that is kept.
func (d *turn) join(x table.Task) api.Errno {
	x.State = table.Runnable
	return d.alter(x, func(c *core.Core) (core.Report, api.Errno) { return c.Join(x.ID, x.W, x.Slice, x.Lag) })
}

// leave: a task leaves its core, if it competes. It, as it sleeps then.
func (d *turn) leave(x table.Task) table.Task {
	if x.State == table.Sleeping {
		return x
	}
	lag, report, _ := d.cores[x.Core].Leave(x.ID)
	d.tell(x.Core, report)
	return d.asleep(x, lag)
}

// alter: a task is otherwise, and where it competes its core is told how.
func (d *turn) alter(x table.Task, how func(c *core.Core) (core.Report, api.Errno)) api.Errno {
	// Ahead of the report: that may tell that this task itself went.
	d.Set(x)
	if x.State == table.Sleeping {
		return api.OK
	}
	report, e := how(d.cores[x.Core])
	if e != api.OK {
		return e
	}
	d.tell(x.Core, report)
	return api.OK
}

// tell: what a core reports is told by events, and who went sleeps.
func (d *turn) tell(k int, report core.Report) {
	for _, p := range report.Parts {
		d.events = append(d.events, Event{Core: k, ID: p.ID, Ns: p.Ns, Done: p.Done})
	}
	for _, g := range report.Gone {
		d.events = append(d.events, Event{Core: k, ID: g.ID, Gone: true})
		x, _ := d.Task(g.ID)
		d.Set(d.asleep(x, g.Lag))
	}
}

// asleep is a task as it sleeps, with what is kept of a lag.
func (d *turn) asleep(x table.Task, lag wide.Int) table.Task {
	x.State, x.Lag = table.Sleeping, d.config.Keep(lag, x.Slice)
	return x
}
