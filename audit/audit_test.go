package audit_test

import (
	"math"
	"slices"
	"testing"

	"turnstone/account"
	"turnstone/api"
	"turnstone/audit"
	"turnstone/item"
	"turnstone/limits"
	"turnstone/pos"
	"turnstone/req"
	"turnstone/table"
	"turnstone/vtime"
)

// laid is a book from an origin on: on the core 0 the task 1 lingers, 2 runs, and 3 waits, owed as much as that; 4 is alone on the core 1, and 5, of that core, sleeps; nobody is on the core 2.
func laid(t *testing.T, origin uint64) *account.Book {
	t.Helper()
	return bookOf(t, small(origin), spawns(0, 1, 5), spawns(0, 1, 9), spawns(0, 1, 20), spawns(1, 3, 4), spawns(1, 2, 6), ticks(4), sleeps(5), sleeps(1))
}

// change does something to a task as the table has it.
func change(b *account.Book, id int, how func(x *table.Task)) {
	x, _ := b.Task(id)
	how(&x)
	b.Set(x)
}

// A broken book is one to which something was done past its calls, and the rules that don't hold then.
type broken struct {
	what string
	do   func(b *account.Book)
	l    []int
}

// checkBroken holds all of these against what is told, from wherever times begin.
func checkBroken(t *testing.T, l []broken) {
	t.Helper()
	for _, origin := range origins() {
		for _, c := range l {
			b := laid(t, origin)
			c.do(b)
			faults(t, c.what, b, c.l...)
		}
	}
}

// setTask is a broken book in which the table tells another thing of a task.
func setTask(what string, id int, how func(x *table.Task), l ...int) broken {
	return broken{what, func(b *account.Book) { change(b, id, how) }, l}
}

func TestP26_1RuleOneOfTasks(t *testing.T) {
	checkBroken(t, []broken{
		{what: "nothing", do: func(b *account.Book) {}},
		setTask("of another weight", 2, func(x *table.Task) { x.W++ }, 1),
		setTask("the waiting one of another weight", 3, func(x *table.Task) { x.W = mostW }, 1),
		setTask("the lingering one of another weight", 1, func(x *table.Task) { x.W = 0 }, 1),
		setTask("of another slice", 2, func(x *table.Task) { x.Slice-- }, 1),
		setTask("the lingering one of another slice", 1, func(x *table.Task) { x.Slice++ }, 1),
		setTask("alone, of another slice", 4, func(x *table.Task) { x.Slice = 0 }, 1),
		setTask("the lingering one Runnable", 1, func(x *table.Task) { x.State = table.Runnable }, 1),
		setTask("the lingering one Sleeping", 1, func(x *table.Task) { x.State = table.Sleeping }, 1),
		setTask("the waiting one Sleeping", 3, func(x *table.Task) { x.State = table.Sleeping }, 1),
		// Of who lingers the lag is asked, too: this one is owed something.
		setTask("the waiting one Lingering", 3, func(x *table.Task) { x.State = table.Lingering }, 1, 5),
		// Of who runs it is asked whether it may.
		setTask("who runs Sleeping", 2, func(x *table.Task) { x.State = table.Sleeping }, 1, 4),
		setTask("who runs Lingering", 2, func(x *table.Task) { x.State = table.Lingering }, 1, 4, 5),
		// One that sleeps has no request.
		setTask("the sleeping one Lingering", 5, func(x *table.Task) { x.State = table.Lingering }, 1, 5),
		setTask("the sleeping one Runnable", 5, func(x *table.Task) { x.State = table.Runnable }, 1),
		setTask("the waiting one elsewhere", 3, func(x *table.Task) { x.Core = 1 }, 1),
		setTask("the waiting one where nobody is", 3, func(x *table.Task) { x.Core = 2 }, 1, 4),
		setTask("who runs elsewhere", 4, func(x *table.Task) { x.Core = 0 }, 1, 4),
		setTask("the lingering one elsewhere", 1, func(x *table.Task) { x.Core = 1 }, 1, 5),
		setTask("on no core", 3, func(x *table.Task) { x.Core = 3 }, 1),
		setTask("on no core, below 0", 3, func(x *table.Task) { x.Core = -1 }, 1),
		setTask("on no core, far away", 3, func(x *table.Task) { x.Core = math.MaxInt }, 1),
		setTask("lingering on no core", 1, func(x *table.Task) { x.Core = math.MinInt }, 1, 5),
	})
}

func TestP26_1RuleOneOfRequests(t *testing.T) {
	checkBroken(t, []broken{
		{"a task too many", func(b *account.Book) { b.Add(table.Task{State: table.Runnable, W: 1, Slice: 1}) }, []int{1}},
		{"a task too many, that lingers", func(b *account.Book) { b.Add(table.Task{State: table.Lingering, Core: 1, W: 1, Slice: 1}) }, []int{1, 5}},
		{"a task that sleeps too many", func(b *account.Book) { b.Add(table.Task{State: table.Sleeping, Core: 9}) }, nil},
		{"the lingering one dropped", func(b *account.Book) { b.Drop(1) }, []int{1}},
		{"the waiting one dropped", func(b *account.Book) { b.Drop(3) }, []int{1}},
		{"the only one dropped", func(b *account.Book) { b.Drop(4) }, []int{1, 4}},
		{"the sleeping one dropped", func(b *account.Book) { b.Drop(5) }, nil},
		{"a request of nobody", func(b *account.Book) { enters(b, 1, 6) }, []int{1}},
		{"a request of nobody there may be", func(b *account.Book) { enters(b, 0, math.MaxInt) }, []int{1}},
		{"a request of one that sleeps", func(b *account.Book) { enters(b, 1, 5) }, []int{1}},
		{"a request on another core, too", func(b *account.Book) { enters(b, 1, 3) }, []int{1}},
		{"a request of who lingers on another core, too", func(b *account.Book) { enters(b, 1, 1); coreAt(b, 1).Rouse(1, true) }, []int{1}},
		{"a request where nobody is", func(b *account.Book) { enters(b, 2, 4) }, []int{1}},
		{"no request", func(b *account.Book) { coreAt(b, 0).Exit(3) }, []int{1}},
		{"awake", func(b *account.Book) { coreAt(b, 0).Rouse(1, false) }, []int{1}},
		{"asleep", func(b *account.Book) { coreAt(b, 0).Rouse(3, true) }, []int{1}},
		{"asleep, and runs", func(b *account.Book) { coreAt(b, 1).Rouse(4, true) }, []int{1}},
	})
}

// enters: a request more on a core, a little behind its now: so who ran there is owed no less.
func enters(b *account.Book, k, id int) {
	c := coreAt(b, k)
	r, _ := req.New(pos.Pos{Time: c.Now() + 1, W: 1}, id, 5)
	if e := c.Enter(r); e != api.OK {
		panic(e)
	}
}

// setReq is a broken book in which a request is otherwise.
func setReq(what string, k, id int, how func(r *req.Req), l ...int) broken {
	return broken{what, func(b *account.Book) {
		reqs := reqsOf(coreAt(b, k))
		r := reqs[id]
		how(&r)
		reqs[id] = r
	}, l}
}

func TestP26_1RuleTwo(t *testing.T) {
	checkBroken(t, []broken{
		setReq("nothing", 0, 2, func(r *req.Req) {}),
		setReq("nothing left", 0, 2, func(r *req.Req) { r.Left = 0 }, 2),
		setReq("more left", 0, 1, func(r *req.Req) { r.Left++ }, 2),
		setReq("less left", 1, 4, func(r *req.Req) { r.Left-- }, 2),
		setReq("too much left", 0, 3, func(r *req.Req) { r.Left = mostSlice + 1 }, 2),
		setReq("due later", 0, 3, func(r *req.Req) { r.Dead.Time++ }, 2),
		setReq("due where there is no such remainder", 1, 4, func(r *req.Req) { r.Dead.R = 3 }, 2),
		setReq("due a little later", 1, 4, func(r *req.Req) { r.Dead.R = (r.Dead.R + 1) % 3 }, 2),
		setReq("elsewhere", 0, 2, func(r *req.Req) { r.Time-- }, 2),
		setReq("of another weight", 0, 2, func(r *req.Req) { r.W = 2 }, 1, 2, 6),
		setReq("of no slice", 0, 2, func(r *req.Req) { r.Slice = 0 }, 1, 2),
		setReq("of another ID", 0, 3, func(r *req.Req) { r.ID = 0 }, 1, 2),
	})
	for _, origin := range origins() {
		// Of two that both tell so it is the request that may not be.
		b := laid(t, origin)
		change(b, 2, func(x *table.Task) { x.Slice = mostSlice + 1 })
		setReq("", 0, 2, func(r *req.Req) { r.Slice = mostSlice + 1 }).do(b)
		faults(t, "of too great a slice", b, 2)
	}
}

// stray puts an item into a core's tree that is so much later than the item that stands first there, and due at once.
func stray(b *account.Book, k int, later uint64) {
	c := coreAt(b, k)
	at := pos.Pos{Time: c.Items()[0].Time + vtime.Time(later), W: 1}
	treeOf(c).Insert(item.Item{Pos: at, ID: 99, Dead: at})
}

func TestP26_1RuleThree(t *testing.T) {
	const most = 1 << 62
	for _, k := range []int{0, 1} {
		checkBroken(t, []broken{
			{"near enough", func(b *account.Book) { stray(b, k, most) }, nil},
			{"a little too far", func(b *account.Book) { stray(b, k, most+1) }, []int{3}},
			{"too far", func(b *account.Book) { stray(b, k, most+most/2) }, []int{3}},
		})
	}
	// A deadline counts, too.
	checkBroken(t, []broken{{"due too late", func(b *account.Book) {
		c := coreAt(b, 1)
		at := c.Items()[0].Pos
		at.W = 1
		treeOf(c).Insert(item.Item{Pos: at, ID: 99, Dead: at.Shift(most + 1)})
	}, []int{3}}})
}

func TestP26_1RuleThreeAsksFromNow(t *testing.T) {
	// From the other side of all times what lies near is far apart.
	b := laid(t, 0)
	c := coreAt(b, 0)
	c.Mean.Base = c.Items()[0].Time + 1<<63 + 1
	if got := audit.Faults(b); !slices.Contains(got, 3) {
		t.Errorf("the faults are %v", got)
	}
}

func TestP26_1RuleFour(t *testing.T) {
	runs := func(k, id int) func(b *account.Book) {
		return func(b *account.Book) { setRun(coreAt(b, k), id) }
	}
	owing := func(id int) func(b *account.Book) {
		return func(b *account.Book) {
			coreAt(b, 0).Rouse(1, false)
			change(b, 1, func(x *table.Task) { x.State = table.Runnable })
			setRun(coreAt(b, 0), id)
		}
	}
	checkBroken(t, []broken{
		{"nobody runs", runs(0, 0), []int{4}},
		{"nobody runs elsewhere", runs(1, 0), []int{4}},
		{"another one runs, who is owed as much", runs(0, 3), nil},
		{"who lingers runs", runs(0, 1), []int{4}},
		{"who sleeps runs", runs(1, 5), []int{4}},
		{"who is elsewhere runs", runs(1, 2), []int{4}},
		{"who isn't there runs", runs(0, 6), []int{4}},
		{"who never is there runs", runs(0, -1), []int{4}},
		{"somebody runs where nobody is", runs(2, 1), []int{4}},
		{"somebody who isn't there runs where nobody is", runs(2, 6), []int{4}},
		{"all are awake", owing(2), nil},
		{"who owes something runs", owing(1), []int{4}},
	})
	// Nobody is awake.
	b := bookOf(t, small(0), spawns(1, 1, 5))
	change(b, 1, func(x *table.Task) { x.State = table.Sleeping })
	coreAt(b, 1).Exit(1)
	faults(t, "somebody runs where nobody is awake", b, 4)
	setRun(coreAt(b, 1), 0)
	faults(t, "nobody runs where nobody is awake", b)
}

func TestP26_1RuleFive(t *testing.T) {
	lies := func(b *account.Book, k, id int) {
		coreAt(b, k).Rouse(id, true)
		change(b, id, func(x *table.Task) { x.State = table.Lingering })
	}
	checkBroken(t, []broken{
		{"who is owed something lingers", func(b *account.Book) { lies(b, 0, 3) }, []int{5}},
		{"who is owed something lingers, and runs", func(b *account.Book) { lies(b, 0, 2) }, []int{4, 5}},
		{"who is owed nothing lingers", func(b *account.Book) {
			lies(b, 1, 4)
			setRun(coreAt(b, 1), 0)
		}, []int{5}},
		{"who owes something lingers awake", func(b *account.Book) { coreAt(b, 0).Rouse(1, false) }, []int{1}},
	})
	// Less than a grain is something, too: 1 owes two thirds of one.
	for _, origin := range origins() {
		b := bookOf(t, small(origin), spawns(2, 1, 5), spawns(2, 2, 9))
		c := coreAt(b, 2)
		r, _ := c.Req(1)
		p, _ := r.Move(1)
		moved, _ := r.Moved(p)
		if e := c.Put(moved); e != api.OK {
			t.Fatal(e)
		}
		setRun(c, 2)
		lies(b, 2, 1)
		faults(t, "who owes less than a grain lingers", b)
		setRun(c, 1)
		coreAt(b, 2).Rouse(1, false)
		change(b, 1, func(x *table.Task) { x.State = table.Runnable })
		faults(t, "who owes less than a grain runs", b, 4)
	}
}

func TestP26_1RuleSix(t *testing.T) {
	checkBroken(t, []broken{
		{"of more weights", func(b *account.Book) { coreAt(b, 0).Mean.W++ }, []int{6}},
		{"of fewer weights", func(b *account.Book) { coreAt(b, 1).Mean.W-- }, []int{6}},
		{"of more", func(b *account.Book) { coreAt(b, 1).Mean.N++ }, []int{6}},
		{"of fewer", func(b *account.Book) { coreAt(b, 0).Mean.N-- }, []int{6}},
		{"of somebody where nobody is", func(b *account.Book) { coreAt(b, 2).Mean.N++ }, []int{6}},
		{"of some weight where nobody is", func(b *account.Book) { coreAt(b, 2).Mean.W += 1 << 40 }, []int{6}},
		{"of a request that isn't there", func(b *account.Book) { delete(reqsOf(coreAt(b, 0)), 3) }, []int{1, 6}},
	})
}

func TestP26_1RuleSeven(t *testing.T) {
	counts := func(k int, busy, idle uint64) func(b *account.Book) {
		return func(b *account.Book) { *countAt(b, k) = account.Count{Busy: busy, Idle: idle, Switches: 5} }
	}
	all := func(l ...func(b *account.Book)) func(b *account.Book) {
		return func(b *account.Book) {
			for _, f := range l {
				f(b)
			}
		}
	}
	// There were ticks of 4 nanoseconds.
	checkBroken(t, []broken{
		{"as it was", all(counts(0, 4, 0), counts(1, 1, 3), counts(2, 0, 4)), nil},
		{"more", counts(0, 5, 0), []int{7}},
		{"more idle", counts(1, 4, 1), []int{7}},
		{"less", counts(2, 0, 3), []int{7}},
		{"nothing", counts(2, 0, 0), []int{7}},
		{"all more", all(counts(0, 0, 9), counts(1, 4, 5), counts(2, 9, 0)), nil},
		{"two more", all(counts(1, 4, 5), counts(2, 0, 9)), []int{7}},
		{"two unlike ones", all(counts(1, 9, 0), counts(2, 5, 0)), []int{7}},
		// Counts go round, and so they do together.
		{"all round", all(counts(0, math.MaxUint64, 5), counts(1, 1<<63, 1<<63+4), counts(2, 4, 0)), nil},
		{"too far round", all(counts(0, math.MaxUint64, 5), counts(1, 1<<63, 1<<63), counts(2, 4, 0)), []int{7}},
	})
	b := bookOf(t, limits.Config{Cores: 1, Tasks: 1, Tick: 1, Slice: 1})
	counts(0, 7, 8)(b)
	faults(t, "of one core alone", b)
}

func TestP26_1RuleEight(t *testing.T) {
	keeps := func(id int, lag int64) broken {
		return broken{"kept", func(b *account.Book) { change(b, id, func(x *table.Task) { x.Lag = lag }) }, nil}
	}
	wrong := func(id int, lag int64) broken {
		x := keeps(id, lag)
		x.what, x.l = "kept too much", []int{8}
		return x
	}
	// With the greatest slice, 20, and ticks up to 9, it is 49 nanoseconds.
	const window = 49 * grain
	checkBroken(t, []broken{
		keeps(5, 0), keeps(5, 1), keeps(5, -1), keeps(5, window), keeps(5, -window),
		wrong(5, window+1), wrong(5, -window-1), wrong(5, math.MaxInt64), wrong(5, math.MinInt64), wrong(5, 1<<40),
		// Of who competes it isn't asked.
		keeps(1, math.MaxInt64), keeps(2, math.MinInt64), keeps(4, window+1),
		// Its own slice doesn't count.
		{"of a little slice", func(b *account.Book) {
			change(b, 5, func(x *table.Task) { x.Slice, x.Lag = 1, window })
		}, nil},
		{"of a slice that may not be", func(b *account.Book) {
			change(b, 5, func(x *table.Task) { x.Slice, x.Lag = mostSlice+1, -window })
		}, nil},
		{"of a great slice", func(b *account.Book) {
			change(b, 5, func(x *table.Task) { x.Slice, x.Lag = mostSlice, window+1 })
		}, []int{8}},
		{"of two who sleep", func(b *account.Book) {
			b.Add(table.Task{State: table.Sleeping, Lag: window + 1})
		}, []int{8}},
	})
	b := bookOf(t, limits.Config{Cores: 1, Tasks: 1, Tick: mostTick, Slice: mostSlice}, spawns(0, 1, 1), sleeps(1))
	change(b, 1, func(x *table.Task) { x.Lag = 3 << 60 })
	faults(t, "of the greatest configuration", b)
	change(b, 1, func(x *table.Task) { x.Lag = -3<<60 - 1 })
	faults(t, "of the greatest configuration", b, 8)
}

// breaksAll: each breaks the rule of its place, and that one alone, whatever others do.
func breaksAll() []func(b *account.Book) {
	return []func(b *account.Book){
		func(b *account.Book) { change(b, 3, func(x *table.Task) { x.W++ }) },
		func(b *account.Book) { setReq("", 0, 3, func(r *req.Req) { r.Left++ }).do(b) },
		func(b *account.Book) { stray(b, 1, 1<<62+1) },
		func(b *account.Book) { setRun(coreAt(b, 1), 0) },
		func(b *account.Book) {
			b.Exit(4)
			b.Spawn(1, 1, 1)
			coreAt(b, 1).Rouse(4, true)
			change(b, 4, func(x *table.Task) { x.State = table.Lingering })
			setRun(coreAt(b, 1), 0)
		},
		func(b *account.Book) { coreAt(b, 0).Mean.W++ },
		func(b *account.Book) { countAt(b, 2).Idle++ },
		func(b *account.Book) { change(b, 5, func(x *table.Task) { x.Lag = math.MaxInt64 }) },
	}
}

func TestP26_1ManyFaults(t *testing.T) {
	breaks := breaksAll()
	for some := range 1 << len(breaks) {
		// 4 and 5 are broken by the same task: only one of both at a time.
		if some&0x18 == 0x18 {
			continue
		}
		b := laid(t, 0)
		var wanted []int
		// The rule 5 is broken first: that asks for calls of the book's own, which would settle what others broke.
		for _, i := range []int{4, 0, 1, 2, 3, 5, 6, 7} {
			if some>>i&1 == 1 {
				breaks[i](b)
				wanted = append(wanted, i+1)
			}
		}
		slices.Sort(wanted)
		faults(t, "some", b, wanted...)
	}
}

func TestP26_1Nil(t *testing.T) {
	faults(t, "nil", nil, 0)
	if got := audit.Weights(nil); len(got) != 0 {
		t.Errorf("of nil the weights are %v", got)
	}
}

func TestP26_1NewBooks(t *testing.T) {
	for _, origin := range origins() {
		for cores := 1; cores <= mostCores; cores++ {
			b := bookOf(t, limits.Config{Cores: cores, Tasks: cores, Tick: 1, Slice: 1, Origin: origin})
			right(t, b)
			if got := audit.Weights(b); !slices.Equal(got, make([]uint64, cores)) {
				t.Errorf("of %d cores the weights are %v", cores, got)
			}
		}
	}
}

func TestP26_1Weights(t *testing.T) {
	b := bookOf(t, small(0), spawns(0, 1, 5), spawns(0, 2, 9), spawns(2, 4, 5), spawns(2, 8, 9), ticks(4))
	weights := func(wanted ...uint64) {
		t.Helper()
		if got := audit.Weights(b); !slices.Equal(got, wanted) {
			t.Errorf("the weights are %v, wanted %v", got, wanted)
		}
	}
	weights(3, 0, 12)
	// Who lingers counts, and who sleeps doesn't.
	sleeps(2)(b)
	if x, _ := b.Task(2); x.State != table.Lingering {
		t.Fatalf("there is %+v", x)
	}
	weights(3, 0, 12)
	sleeps(3)(b)
	if x, _ := b.Task(3); x.State != table.Sleeping {
		t.Fatalf("there is %+v", x)
	}
	weights(3, 0, 8)
	weighs(4, mostW)(b)
	weighs(3, 16)(b)
	weights(3, 0, mostW)
	migrates(4, 1)(b)
	weights(3, mostW, 0)
	wakes(3)(b)
	exits(1)(b)
	weights(0, mostW, 16)
	b = bookOf(t, limits.Config{Cores: mostCores, Tasks: mostTasks, Tick: 1, Slice: 1})
	for range mostTasks {
		spawns(7, mostW, 1)(b)
	}
	weights(0, 0, 0, 0, 0, 0, 0, mostW*mostTasks)
}

func TestP26_1AnswersAreNewMemory(t *testing.T) {
	b := laid(t, 0)
	weights, other := audit.Weights(b), audit.Weights(b)
	clear(weights)
	if !slices.Equal(other, weightsOf(b)) || !slices.Equal(audit.Weights(b), other) {
		t.Errorf("the weights are %v now", other)
	}
	change(b, 2, func(x *table.Task) { x.W++ })
	l, m := audit.Faults(b), audit.Faults(b)
	clear(l)
	clear(audit.Faults(nil))
	if !slices.Equal(m, []int{1}) || !slices.Equal(audit.Faults(b), m) || !slices.Equal(audit.Faults(nil), []int{0}) {
		t.Errorf("the faults are %v now", m)
	}
}

// lengthsOf are weights and lengths of a walk, each without a pattern.
func lengthsOf(next func(n int) int, kind int, c limits.Config) (weight, length func() uint64) {
	upTo := func(n int) func() uint64 { return func() uint64 { return uint64(next(n+1)) + 1 } }
	some := func(l ...uint64) func() uint64 { return func() uint64 { return l[next(len(l))] } }
	switch kind {
	case 0:
		return upTo(30), upTo(int(min(c.Tick, c.Slice)))
	case 1:
		// Of the greatest and the least weight, far apart.
		return some(1, 1, mostW, mostW-1, mostW+1, 0), some(c.Slice, c.Tick, c.Slice/2+1, c.Tick/3+1)
	}
	return func() uint64 { return uint64(1) << next(21) }, func() uint64 { return c.Tick - c.Tick/50*uint64(next(49)) }
}

// configOf is one for a walk: of the kinds above 0 of the greatest numbers.
func configOf(next func(n int) int, kind int) limits.Config {
	c := limits.Config{Cores: 1 + next(3), Tasks: []int{3, 8, mostTasks}[next(3)], Tick: mostTick, Slice: mostSlice, Origin: origins()[next(4)]}
	if kind == 0 {
		c.Tick, c.Slice = uint64(1+next(200)), uint64(1+next(60))
	}
	return c
}

func TestP26_2WhateverIsDone(t *testing.T) {
	told := map[api.Errno]int{}
	states := map[uint8]int{}
	for seed := range 60 {
		next := chance(seed)
		kind := seed % 3
		c := configOf(next, kind)
		b := bookOf(t, c)
		weight, length := lengthsOf(next, kind, c)
		for i := range 120 {
			told[stepOf(next, c, weight, length)(b)]++
			right(t, b)
			for _, x := range b.Tasks() {
				states[x.State]++
			}
			if i%40 == 39 {
				b = b.Clone()
				right(t, b)
			}
		}
	}
	for _, e := range []api.Errno{api.ErrRange, api.ErrTask, api.ErrCore, api.ErrState, api.ErrFull} {
		if told[e] < 10 {
			t.Errorf("of the errors %d there were %d", e, told[e])
		}
	}
	for state := table.Runnable; state <= table.Sleeping; state++ {
		if states[state] < 500 {
			t.Errorf("of the state %d there were %d", state, states[state])
		}
	}
}

// owing are steps behind which on the second core 2 runs, and some more sleep, from 3 on, each of the weight 1, and owing nearly as much as a whole tick.
func owing(n int) []step {
	l := []step{spawns(0, mostW, mostSlice), spawns(1, 1, mostSlice)}
	for id := 3; id < 3+n; id++ {
		// The first one is due first, but had more than its share by a nanosecond.
		l = append(l, spawns(0, 1, mostSlice), ticks(1), ticks(mostTick), sleeps(id), migrates(id, 1))
	}
	return l
}

func TestP26_2FarApart(t *testing.T) {
	told := map[api.Errno]int{}
	for seed := range 16 {
		next := chance(700 + seed)
		c := limits.Config{Cores: 3, Tasks: 12, Tick: mostTick, Slice: mostSlice, Origin: origins()[seed%4]}
		b := bookOf(t, c, owing(6)...)
		weight, length := lengthsOf(next, 1+next(2), c)
		for range 60 {
			x := wakes(3 + next(6))
			switch next(8) {
			case 0:
				x = stepOf(next, c, weight, length)
			case 1:
				x = weighs(3+next(6), 1+uint64(next(2)))
			case 2:
				x = migrates(3+next(6), 1+next(2))
			case 3:
				x = sleeps(3 + next(6))
			}
			told[x(b)]++
			right(t, b)
		}
	}
	if told[api.ErrSpread] < 10 || told[api.OK] < 100 {
		t.Errorf("there were %v", told)
	}
}

func TestP26_2SlicesThatGetLess(t *testing.T) {
	// What it keeps is more than the window of the slice that it has then.
	for _, origin := range origins() {
		b := bookOf(t, limits.Config{Cores: 2, Tasks: 3, Tick: 2, Slice: 40, Origin: origin}, spawns(0, 1, 40), spawns(0, mostW, 40), ticks(2), ticks(2), sleeps(2), ticks(2), slicesTo(1, 1), slicesTo(2, 1))
		for range 30 {
			ticks(2)(b)
			right(t, b)
		}
		b = bookOf(t, limits.Config{Cores: 2, Tasks: 3, Tick: 9, Slice: 9, Origin: origin}, spawns(0, 1, 9), spawns(0, 1, 9), ticks(9), sleeps(2), slicesTo(2, 1), slicesTo(2, 9), migrates(2, 1), wakes(2))
		right(t, b)
	}
}

func TestP26_2AskingChangesNothing(t *testing.T) {
	for seed := range 6 {
		next := chance(300 + seed)
		c := configOf(next, 0)
		asked, left := bookOf(t, c), bookOf(t, c)
		weight, length := lengthsOf(next, 0, c)
		for range 60 {
			x := stepOf(next, c, func() uint64 { return 3 }, func() uint64 { return 2 })
			if next(2) == 0 {
				w, ns := weight(), length()
				x = stepOf(next, c, func() uint64 { return w }, func() uint64 { return ns })
			}
			e, f := x(asked), x(left)
			audit.Faults(asked)
			audit.Right(asked)
			audit.Weights(asked)
			if e != f || !slices.Equal(asked.Tasks(), left.Tasks()) || !slices.Equal(asked.Runs(), left.Runs()) {
				t.Fatalf("%d: of %+v, wanted %d, %+v", e, asked.Tasks(), f, left.Tasks())
			}
		}
	}
}
