package audit

import (
	"slices"

	"turnstone/account"
	"turnstone/core"
	"turnstone/span"
	"turnstone/table"
	"turnstone/wide"
)

// opened is a book, and a clone of each of its cores: what the book hands out is a new one each time.
type opened struct {
	*account.Book
	cores []*core.Core
}

func open(b *account.Book) opened {
	x := opened{Book: b}
	for k := range b.Config().Cores {
		c, _ := b.Core(k)
		x.cores = append(x.cores, c)
	}
	return x
}

// at is the core of that number; where there is none it is one without tasks.
func (x opened) at(k int) *core.Core {
	if k < 0 || k >= len(x.cores) {
		return core.New(0)
	}
	return x.cores[k]
}

// A rule tells whether it holds.
type rule func(x opened) bool

// rules: each in the place that is one below its number.
func rules() []rule {
	return []rule{
		both(ofEach(hasRequest, table.Runnable, table.Lingering), onEach(hasNoOther)),
		onEach(requestsMayBe),
		onEach(itemsAreNear),
		onEach(rightOneRuns),
		ofEach(owes, table.Lingering),
		onEach(meanIsOfRequests),
		onEach(tickedAsFirst),
		ofEach(keepsWithin, table.Sleeping),
	}
}

// both is a rule that holds where two others do.
func both(a, b rule) rule { return func(x opened) bool { return a(x) && b(x) } }

// onEach is the rule that something holds on each core.
func onEach(holds func(x opened, k int) bool) rule {
	return func(x opened) bool {
		for k := range x.cores {
			if !holds(x, k) {
				return false
			}
		}
		return true
	}
}

// ofEach is the rule that something holds of each task in one of some states.
func ofEach(holds func(x opened, t table.Task) bool, states ...uint8) rule {
	return func(x opened) bool {
		fails := func(t table.Task) bool { return slices.Contains(states, t.State) && !holds(x, t) }
		return !slices.ContainsFunc(x.Tasks(), fails)
	}
}

func hasRequest(x opened, t table.Task) bool {
	r, there := x.at(t.Core).Req(t.ID)
	return there && r.W == t.W && r.Slice == t.Slice && r.Asleep == (t.State == table.Lingering)
}

// hasNoOther: is each request there one of a task that competes there?
func hasNoOther(x opened, k int) bool {
	for _, r := range x.cores[k].Reqs() {
		// Of who isn't there it is the zero task, which is Free.
		t, _ := x.Task(r.ID)
		if t.Core != k || t.State != table.Runnable && t.State != table.Lingering {
			return false
		}
	}
	return true
}

func requestsMayBe(x opened, k int) bool {
	for _, r := range x.cores[k].Reqs() {
		if !r.Right() {
			return false
		}
	}
	return true
}

func itemsAreNear(x opened, k int) bool {
	c := x.cores[k]
	return span.Within(c.Now(), c.Items()...)
}

func rightOneRuns(x opened, k int) bool {
	runnable := func(t table.Task) bool { return t.Core == k && t.State == table.Runnable }
	c := x.cores[k]
	if c.Run() == 0 {
		return !slices.ContainsFunc(x.Tasks(), runnable)
	}
	t, _ := x.Task(c.Run())
	owed, _ := c.Owed(t.ID)
	return runnable(t) && owed >= 0
}

func owes(x opened, t table.Task) bool {
	owed, _ := x.at(t.Core).Owed(t.ID)
	return owed < 0
}

func meanIsOfRequests(x opened, k int) bool {
	c := x.cores[k]
	return c.Mean.W == weightOf(c) && c.Mean.N == len(c.Reqs())
}

// tickedAsFirst: is the time of a core that of the first one? Both go round, as what they are of does.
func tickedAsFirst(x opened, k int) bool {
	ticked := func(k int) uint64 {
		count, _ := x.Count(k)
		return count.Busy + count.Idle
	}
	return ticked(k) == ticked(0)
}

// keepsWithin: is what is kept all that is kept of it, with the greatest slice?
func keepsWithin(x opened, t table.Task) bool {
	c := x.Config()
	return c.Keep(wide.Of(t.Lag), c.Slice) == t.Lag
}
