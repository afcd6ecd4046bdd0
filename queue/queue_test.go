package queue_test

import (
	"math"
	"slices"
	"testing"

	"turnstone/api"
	"turnstone/item"
	"turnstone/mean"
	"turnstone/pos"
	"turnstone/queue"
	"turnstone/vtime"
	"turnstone/wide"
)

func TestP14_1New(t *testing.T) {
	for _, clock := range origins() {
		p := newPair(clock)
		p.check(t)
		if p.q.Now() != clock || p.q.Len() != 0 || len(p.q.Items()) != 0 || p.q.Spread() != 0 {
			t.Errorf("a new queue of the clock %d isn't new", clock)
		}
		p.leave(t, 1, api.ErrNone)
		p.change(t, whole(1, clock, clock), api.ErrNone)
		// No two share anything.
		queue.New(clock).Join(whole(1, clock, clock))
		p.check(t)
	}
}

func TestP14_1TheClockOfNoneAgain(t *testing.T) {
	for _, by := range origins() {
		p := pairOf(t, by+77, whole(1, by+5, by+9), of(2, 3, by+8, 2, by+8, 2))
		p.leave(t, 1, api.OK)
		p.leave(t, 2, api.OK)
		if p.q.Now() != by+8 {
			t.Errorf("the clock is %d, wanted %d", p.q.Now(), by+8)
		}
		// Who comes next isn't held to that clock, and leaves one of its own.
		p.join(t, whole(2, by+8+half, by+9+half), api.OK)
		p.change(t, of(2, 7, by+40, 6, by+41, 0), api.OK)
		p.leave(t, 2, api.OK)
		if p.q.Now() != by+40 {
			t.Errorf("the clock is %d, wanted %d", p.q.Now(), by+40)
		}
		p.leave(t, 2, api.ErrNone)
	}
}

func TestP14_1GetAndItems(t *testing.T) {
	a, b := whole(1, 5, 9), whole(math.MaxInt, 3, 4)
	p := pairOf(t, 0, a, b)
	if got, ok := p.q.Get(math.MaxInt); got != b || !ok {
		t.Errorf("the second one is %+v, %v", got, ok)
	}
	for _, id := range []int{0, -1, 2, math.MinInt, math.MaxInt - 1} {
		if got, ok := p.q.Get(id); got != (item.Item{}) || ok {
			t.Errorf("of %d: %+v, %v", id, got, ok)
		}
	}
	if got := p.q.Items(); !slices.Equal(got, []item.Item{b, a}) {
		t.Errorf("the items are %+v", got)
	}
}

func TestP14_1ItemsInWhateverOrderTheyCome(t *testing.T) {
	l := []item.Item{of(4, 4, end-1, 1, 2, 0), of(2, 2, end, 1, 9, 0), of(5, 4, end, 2, 8, 0), whole(1, 0, 3), whole(3, 0, 2)}
	for _, come := range orders(len(l)) {
		p := newPair(7)
		for _, i := range come {
			if e := p.q.Join(l[i]); e != api.OK || p.m.join(l[i]) != api.OK {
				t.Fatalf("%+v joins: %d", l[i], e)
			}
		}
		p.check(t)
		if got := p.q.Items(); !slices.Equal(got, l) {
			t.Fatalf("in the order %d come %+v", come, got)
		}
		// As they came they leave again.
		for _, i := range come {
			if a, e := p.q.Leave(l[i].ID); a != l[i] || e != api.OK {
				t.Fatalf("%+v leaves: %+v, %d", l[i], a, e)
			}
			p.m.leave(l[i].ID)
			if got := p.q.Items(); !slices.Equal(got, p.m.items()) {
				t.Fatalf("then there are %+v", got)
			}
		}
		p.check(t)
	}
}

func TestP14_1Clone(t *testing.T) {
	for _, by := range origins() {
		p := newPair(by)
		for n := range 9 {
			c := p.clone()
			c.check(t)
			if c.q == p.q {
				t.Fatal("a clone is the queue itself")
			}
			// Each goes on by itself.
			id := n + 1
			p.join(t, of(id, 3, by+vtime.Time(n*n), 1, by+100-vtime.Time(n), 0), api.OK)
			c.check(t)
			c.join(t, of(id, 2, by-vtime.Time(n), 1, by+9, 0), api.OK)
			p.check(t)
			c.change(t, whole(id, by+50, by+60), api.OK)
			p.check(t)
			p.change(t, of(id, 5, by+vtime.Time(n*n)+1, 4, by+99, 3), api.OK)
			c.check(t)
			d := c.clone()
			c.leave(t, id, api.OK)
			p.check(t)
			d.check(t)
		}
	}
}

func TestP14_1Nil(t *testing.T) {
	var q *queue.Queue
	a := whole(1, 5, 9)
	if q.Len() != 0 || len(q.Items()) != 0 || q.Now() != 0 || q.Spread() != 0 || q.Clone() != nil {
		t.Error("of nil something is told")
	}
	if got, ok := q.Get(1); got != (item.Item{}) || ok {
		t.Errorf("Get: %+v, %v", got, ok)
	}
	if got, ok := q.Soonest(); got != (item.Item{}) || ok {
		t.Errorf("Soonest: %+v, %v", got, ok)
	}
	if e, f := q.Join(a), q.Join(item.Item{}); e != api.ErrNil || f != api.ErrNil {
		t.Errorf("Join: %d, %d", e, f)
	}
	if e, f := q.Change(a), q.Change(item.Item{}); e != api.ErrNil || f != api.ErrNil {
		t.Errorf("Change: %d, %d", e, f)
	}
	if got, e := q.Leave(1); got != (item.Item{}) || e != api.ErrNil {
		t.Errorf("Leave: %+v, %d", got, e)
	}
	if got, e := q.Lag(1); got != (wide.Int{}) || e != api.ErrNil {
		t.Errorf("Lag: %v, %d", got, e)
	}
	if got, e := q.Owed(1); got != 0 || e != api.ErrNil {
		t.Errorf("Owed: %d, %d", got, e)
	}
}

func TestP14_1AnswersAreNewMemory(t *testing.T) {
	p := pairOf(t, 0, whole(1, 5, 9), whole(2, 6, 7), whole(3, 1, 8))
	l, m := p.q.Items(), p.q.Items()
	clear(l)
	if !slices.Equal(m, p.m.items()) {
		t.Error("two answers share something")
	}
	clear(m)
	p.check(t)
	_ = append(p.q.Items()[:1], whole(7, 7, 7))
	p.check(t)
}

// wrongItems may not be.
func wrongItems() []item.Item {
	return []item.Item{
		{}, whole(0, 5, 9), whole(-1, 5, 9), whole(math.MinInt, 5, 9), whole(1, 5, 4), whole(1, 5, 6+later), whole(1, 5, 5+half), whole(1, 0, end),
		of(1, 0, 5, 0, 9, 0), of(1, mostW+1, 5, 0, 9, 0), of(1, math.MaxUint32, 5, 0, 9, 0), of(1, 3, 5, 3, 9, 0), of(1, 3, 5, 0, 9, 3),
		{Pos: pos.Pos{Time: 5, W: 2}, ID: 1, Dead: pos.Pos{Time: 9, W: 1}}, {Pos: pos.Pos{Time: 5, W: 1}, ID: 1},
	}
}

func TestP14_2JoinErrors(t *testing.T) {
	l := []item.Item{whole(1, 5, 9), whole(2, 8, 8)}
	for _, by := range origins() {
		for _, c := range []struct {
			what   string
			a      item.Item
			wanted api.Errno
		}{
			{"one more", whole(3, 6, 7), api.OK},
			{"at another one's place, and as it is due", whole(3, 5, 9), api.OK},
			{"one that is there", whole(2, 8, 8), api.ErrThere},
			{"another one of its ID", whole(1, 7, 10), api.ErrThere},
			{"one too far behind", whole(3, most+6, most+6), api.ErrSpread},
			{"one just near enough", whole(3, most+5, most+5), api.OK},
			{"one due too far behind", whole(3, most+2, most+6), api.ErrSpread},
			{"one due just near enough", whole(3, most+2, most+5), api.OK},
			{"one too far ahead", whole(3, ahead(8, most), ahead(9, most)), api.ErrSpread},
			{"one just near enough ahead of all", whole(3, ahead(9, most), ahead(9, most)), api.OK},
			{"one half of the way round", whole(3, 6+half, 6+half), api.ErrSpread},
			{"and one a little less", whole(3, 5+half, 5+half), api.ErrSpread},
			{"and one due as if it were near", whole(3, half-later+6, 6+half), api.ErrSpread},
			{"there, and too far", whole(2, half, half), api.ErrThere},
			{"may not be, and is there", of(2, 1, 8, 1, 8, 0), api.ErrArg},
			{"may not be, and is too far", whole(3, half, half-1), api.ErrArg},
			{"may not be, is there, and too far", whole(1, half, half-1), api.ErrArg},
		} {
			p := pairOf(t, by, shifted(by, l)...)
			p.join(t, c.a.Shift(by), c.wanted)
			if p.q.Len() != 2 && c.wanted != api.OK {
				t.Errorf("%s: there are %d", c.what, p.q.Len())
			}
		}
		p, none := pairOf(t, by, shifted(by, l)...), newPair(by)
		for _, a := range wrongItems() {
			p.join(t, a.Shift(by), api.ErrArg)
			none.join(t, a.Shift(by), api.ErrArg)
		}
	}
}

func TestP14_2JoinOfNone(t *testing.T) {
	// Where nobody is the clock counts for nothing, however far away it is.
	for _, clock := range origins() {
		for _, time := range append(origins(), clock+half, clock+half-1, clock+half+1, clock+most+1) {
			p := newPair(clock)
			p.join(t, of(9, 5, time, 4, time+later, 3), api.OK)
			p.join(t, whole(4, time+most, time+most), api.OK)
			p.join(t, whole(5, time+most+1, time+most+1), api.ErrSpread)
			p.join(t, whole(5, time-1, time-1), api.ErrSpread)
		}
	}
}

// full is one of 32 items, whose IDs are from 1 to 32.
func full(t *testing.T, by vtime.Time) *pair {
	t.Helper()
	p := newPair(by)
	for i := range mostN {
		w := uint32(1) << (i % 21)
		p.join(t, of(i*5%mostN+1, w, by+vtime.Time(i/3), w/2, by+60-vtime.Time(i), w-1), api.OK)
	}
	return p
}

func TestP14_2Full(t *testing.T) {
	for _, by := range origins() {
		p := full(t, by)
		p.join(t, whole(33, by+5, by+6), api.ErrFull)
		p.join(t, whole(33, by+half, by+half), api.ErrFull)
		p.join(t, whole(7, by+5, by+6), api.ErrThere)
		p.join(t, whole(7, by+half, by+half), api.ErrThere)
		p.join(t, whole(33, by+5, by+4), api.ErrArg)
		p.join(t, of(7, 1, by+half, 1, by+half, 0), api.ErrArg)
		p.change(t, whole(33, by+5, by+6), api.ErrNone)
		p.change(t, of(7, mostW, by+1, 0, by+6, 9), api.OK)
		p.change(t, whole(8, by+half, by+half), api.ErrSpread)
		c := p.clone()
		p.leave(t, 33, api.ErrNone)
		p.leave(t, 20, api.OK)
		p.join(t, whole(33, by+5, by+6), api.OK)
		p.join(t, whole(20, by+5, by+6), api.ErrFull)
		c.join(t, whole(33, by+5, by+6), api.ErrFull)
		for id := range mostN + 2 {
			if _, there := p.q.Get(id); there {
				p.leave(t, id, api.OK)
			}
		}
		if p.q.Len() != 0 {
			t.Errorf("there are %d yet", p.q.Len())
		}
	}
}

func TestP14_2Leave(t *testing.T) {
	l := []item.Item{whole(1, 5, 9), whole(2, 8, 8), of(3, 7, 6, 2, 20, 1), of(4, mostW, 6, 5, 7, 5)}
	for _, by := range origins() {
		for _, going := range orders(len(l)) {
			p := pairOf(t, by+1, shifted(by, l)...)
			for _, i := range going {
				for _, id := range []int{0, -1, 5, math.MinInt, math.MaxInt} {
					if a, e := p.q.Leave(id); a != (item.Item{}) || e != api.ErrNone {
						t.Fatalf("%d leaves: %+v, %d", id, a, e)
					}
				}
				p.leave(t, l[i].ID, api.OK)
				p.leave(t, l[i].ID, api.ErrNone)
			}
		}
	}
}

func TestP14_2LeaveMakesRoom(t *testing.T) {
	for _, by := range origins() {
		p := pairOf(t, by, whole(1, by, by), whole(2, by+most, by+most), of(3, 9, by+7, 8, by+9, 0))
		p.join(t, whole(4, by+most+1, by+most+1), api.ErrSpread)
		p.leave(t, 1, api.OK)
		p.join(t, whole(4, by+most+7, by+most+7), api.OK)
		p.join(t, whole(5, by+most+8, by+most+8), api.ErrSpread)
		p.leave(t, 3, api.OK)
		p.join(t, whole(5, by+2*most-1, by+2*most), api.OK)
		p.leave(t, 2, api.OK)
	}
}

func TestP14_2Change(t *testing.T) {
	l := []item.Item{whole(1, 5, 9), whole(2, 8, 8), of(3, 4, 6, 1, 12, 3)}
	for _, by := range origins() {
		for _, c := range []struct {
			what   string
			a      item.Item
			wanted api.Errno
		}{
			{"as it is", whole(2, 8, 8), api.OK},
			{"in its deadline", whole(2, 8, 30), api.OK},
			{"in its deadline, to be due first", of(3, 4, 6, 1, 6, 1), api.OK},
			{"in its place, ahead", whole(2, 3, 8), api.OK},
			{"in its place, behind", whole(1, 20, 21), api.OK},
			{"in what is left of its place", of(3, 4, 6, 2, 12, 3), api.OK},
			{"to another one's place", whole(2, 5, 9), api.OK},
			{"in its weight", of(1, mostW, 5, 0, 9, 0), api.OK},
			{"in its weight, at the same place", of(3, 8, 6, 2, 12, 6), api.OK},
			{"in all", of(2, 77, 100, 76, 200, 75), api.OK},
			{"just near enough behind", whole(2, most+5, most+5), api.OK},
			{"too far behind", whole(2, most+6, most+6), api.ErrSpread},
			{"due just near enough", whole(2, most, most+5), api.OK},
			{"due too far behind", whole(2, most, most+6), api.ErrSpread},
			{"just near enough ahead", whole(1, ahead(12, most), ahead(12, most)), api.OK},
			{"too far ahead", whole(1, ahead(11, most), ahead(11, most)), api.ErrSpread},
			{"the last deadline gone, near enough ahead", whole(3, ahead(9, most), ahead(9, most)), api.OK},
			{"the last deadline gone, and too far ahead", whole(3, ahead(8, most), ahead(8, most)), api.ErrSpread},
			{"half of the way round", whole(2, 6+half, 6+half), api.ErrSpread},
			{"one that isn't there", whole(4, 8, 8), api.ErrNone},
			{"one that isn't there, and too far", whole(4, half, half), api.ErrNone},
			{"one that may not be", whole(2, 8, 7), api.ErrArg},
			{"one that may not be, and is too far", whole(2, half, half-1), api.ErrArg},
			{"one that may not be, and isn't there", of(4, 1, 8, 1, 8, 0), api.ErrArg},
			{"one that may not be, isn't there, and is too far", whole(4, half, half-1), api.ErrArg},
		} {
			p := pairOf(t, by, shifted(by, l)...)
			p.change(t, c.a.Shift(by), c.wanted)
			got, _ := p.q.Get(c.a.ID)
			if changed := got == c.a.Shift(by); changed != (c.wanted == api.OK) {
				t.Errorf("%s: it is %+v", c.what, got)
			}
		}
		p, none := pairOf(t, by, shifted(by, l)...), newPair(by)
		for _, a := range wrongItems() {
			p.change(t, a.Shift(by), api.ErrArg)
			none.change(t, a.Shift(by), api.ErrArg)
		}
	}
}

func TestP14_2ChangeOfTheOnlyOne(t *testing.T) {
	// It may go wherever it likes.
	for _, by := range origins() {
		for _, far := range append(origins(), half+1, most+1, 1) {
			p := pairOf(t, by, whole(3, by+1, by+2))
			p.change(t, of(3, 6, by+far, 5, by+far+later, 0), api.OK)
			p.change(t, whole(3, by+1, by+2), api.OK)
			p.change(t, whole(3, by+far, by+far), api.OK)
			p.join(t, whole(1, by+far+most, by+far+most), api.OK)
			p.join(t, whole(2, by+far-1, by+far), api.ErrSpread)
		}
	}
}

func TestP14_2ChangeFromOneEndToTheOther(t *testing.T) {
	// The old place counts no more, so the new one may be half of the way round from it.
	for _, by := range origins() {
		for _, w := range []uint32{1, 1000, mostW} {
			for _, others := range []int{1, 2, 3, 9} {
				p := newPair(by)
				for i := range others {
					p.join(t, of(i+2, w, by, 0, by, 0), api.OK)
				}
				p.join(t, of(1, w, by-most, 0, by-most, 0), api.OK)
				for range 3 {
					p.change(t, of(1, w, by+most, 0, by+most, 0), api.OK)
					p.change(t, of(1, w, by+most+1, 0, by+most+1, 0), api.ErrSpread)
					p.change(t, of(1, w, by-most-1, 0, by-most-1, 0), api.ErrSpread)
					p.change(t, of(1, w, by-most, 0, by-most+later, 0), api.OK)
				}
			}
		}
	}
}

func TestP14_2AllTheWayRound(t *testing.T) {
	// All move on by turns, and go round modulo 2^64 several times: what was far away once counts no more.
	for _, by := range origins() {
		p := pairOf(t, by, of(1, 3, by, 2, by+9, 0), of(2, 5, by+1, 4, by+8, 0), whole(3, by+2, by+7))
		for step := range 60 {
			a := p.q.Items()[0]
			p.change(t, a.Shift(1<<61+vtime.Time(step)), api.OK)
		}
		for range 20 {
			a := p.q.Items()[2]
			p.change(t, a.Shift(end-1<<61), api.OK)
		}
	}
}

func TestP14_2OneGoesAnotherComes(t *testing.T) {
	for _, by := range origins() {
		p := newPair(by)
		for step := range 40 {
			time := by + vtime.Time(step)<<60
			p.join(t, of(step+1, 3, time, 1, time+later, 2), api.OK)
			if step >= 2 {
				p.leave(t, step-1, api.OK)
			}
		}
	}
}

func TestP14_3LagAndOwed(t *testing.T) {
	for _, by := range origins() {
		for _, c := range []struct {
			what string
			l    []item.Item
			lags []string
			owed []int
		}{
			{"one alone", []item.Item{of(1, 7, 5, 3, 9, 0)}, []string{"0"}, []int{0}},
			{"two", []item.Item{whole(1, 5, 9), whole(2, 8, 8)}, []string{"1", "-2"}, []int{1, -1}},
			{"two at one place", []item.Item{whole(1, 5, 9), of(2, 3, 5, 0, 6, 0)}, []string{"0", "0"}, []int{0, 0}},
			{"by less than a grain", []item.Item{of(1, 3, 5, 0, 9, 0), of(2, 3, 5, 1, 9, 0)}, []string{"0", "-1"}, []int{1, -1}},
			{"of unlike weights", []item.Item{of(1, 3, 5, 0, 9, 0), whole(2, 9, 12)}, []string{"3", "-3"}, []int{1, -1}},
			{"one just together with all", []item.Item{whole(1, 5, 9), whole(2, 7, 8), whole(3, 6, 6)}, []string{"1", "-1", "0"}, []int{1, -1, 0}},
			{"as far apart as may be", []item.Item{of(1, mostW, 0, 0, 0, 0), of(2, mostW, most, 0, most, 0)}, []string{"2417851639229258349412352", "-2417851639229258349412352"}, []int{1, -1}},
		} {
			p := pairOf(t, by, shifted(by, c.l)...)
			for i, a := range c.l {
				owed, e := p.q.Lag(a.ID)
				sign, f := p.q.Owed(a.ID)
				if owed.String() != c.lags[i] || e != api.OK || sign != c.owed[i] || f != api.OK {
					t.Errorf("%s: %d has %v, %d and %d, %d, wanted %s, %d", c.what, a.ID, owed, e, sign, f, c.lags[i], c.owed[i])
				}
			}
			for _, id := range []int{0, -1, len(c.l) + 1, math.MaxInt, math.MinInt} {
				p.checkOne(t, id)
			}
		}
	}
}

func TestP14_3Soonest(t *testing.T) {
	for _, by := range origins() {
		for _, c := range []struct {
			what string
			l    []item.Item
			id   int
		}{
			{"one", []item.Item{whole(7, 5, 9)}, 7},
			{"two, of whom one is owed something", []item.Item{whole(1, 5, 9), whole(2, 8, 8)}, 1},
			{"who had more is due long ahead", []item.Item{whole(1, 5, 900), whole(2, 8, 8), whole(3, 6, 40)}, 3},
			{"all owed nothing", []item.Item{whole(1, 5, 9), whole(2, 5, 8), whole(3, 5, 10)}, 2},
			{"one owed just nothing is due first", []item.Item{whole(1, 5, 9), whole(2, 7, 8), whole(3, 6, 6)}, 3},
			{"one had less than a grain more", []item.Item{of(1, 3, 5, 0, 9, 0), of(2, 3, 5, 1, 6, 0)}, 1},
			{"due at once, the one ahead", []item.Item{whole(1, 5, 9), whole(2, 4, 9), whole(3, 50, 50)}, 2},
			{"due at once at one place, the lesser ID", []item.Item{whole(5, 5, 9), whole(3, 5, 9), whole(4, 5, 9)}, 3},
			{"due at the same fraction", []item.Item{of(2, 2, 5, 0, 9, 1), of(1, 4, 5, 0, 9, 2), of(3, 6, 5, 0, 9, 3)}, 1},
			{"due by a fraction sooner", []item.Item{of(1, 2, 5, 0, 9, 1), of(2, 4, 5, 0, 9, 1)}, 2},
			{"far apart", []item.Item{whole(1, 0, later), whole(2, 9, 9), whole(3, most, most)}, 2},
		} {
			for _, come := range orders(len(c.l)) {
				p := newPair(by)
				for _, i := range come {
					p.join(t, c.l[i].Shift(by), api.OK)
				}
				for range 2 {
					if a, ok := p.q.Soonest(); a.ID != c.id || !ok {
						t.Errorf("%s: the soonest is %+v, %v", c.what, a, ok)
					}
				}
			}
		}
	}
	if a, ok := queue.New(5).Soonest(); a != (item.Item{}) || ok {
		t.Errorf("of none the soonest is %+v, %v", a, ok)
	}
}

func TestP14_3WhoIsServedByTurns(t *testing.T) {
	// Who is due first is served all that it asks for, and is due later then: so each has its turn.
	for _, by := range origins() {
		p := pairOf(t, by, whole(1, by, by+4), whole(2, by, by+3), whole(3, by, by+3))
		for _, id := range []int{2, 3, 1, 2, 3, 1} {
			a, ok := p.q.Soonest()
			if a.ID != id || !ok {
				t.Fatalf("of %+v the soonest is %+v, %v, wanted %d", p.q.Items(), a, ok, id)
			}
			a.Dead, a.Pos = a.Dead.Shift(4), a.Pos.Shift(4)
			p.change(t, a, api.OK)
		}
	}
}

func TestP14_4OneIsEligible(t *testing.T) {
	next := chance(4)
	for _, by := range origins() {
		p := newPair(by)
		for n := range mostN {
			w := uint32(1 + next(mostW))
			time := by + vtime.Time(next(1<<61)>>next(60))
			p.join(t, of(n+1, w, time, uint32(next(int(w))), time+vtime.Time(next(later)), uint32(next(int(w)))), api.OK)
			owed, sum := 0, 0
			for _, a := range p.q.Items() {
				sign, _ := p.q.Owed(a.ID)
				if sign >= 0 {
					owed++
				}
				sum += sign
			}
			if a, ok := p.q.Soonest(); owed == 0 || !ok || !a.Right() {
				t.Fatalf("of %+v %d are owed something, and the soonest is %+v", p.q.Items(), owed, a)
			}
			if n == 0 && sum != 0 {
				t.Fatal("one alone is owed something")
			}
		}
	}
}

// A turn is what is asked of a queue: to take an item in (0), to let one go (1), to change one (2).
type turn struct {
	kind int
	a    item.Item
}

// turns without a pattern: most items lie near the others, some as far as may be, and some further.
func turns(seed, n int) []turn {
	next := chance(seed)
	var l []turn
	var walked vtime.Time
	for range n {
		walked += vtime.Time(next(1<<59) >> next(60))
		w := uint32(1 + next(mostW)>>next(20))
		time := walked + vtime.Time(next(1<<61)>>next(60))
		switch next(12) {
		case 0:
			time += most - 1<<60
		case 1:
			time -= most - 1<<60
		case 2:
			time = vtime.Time(next(math.MaxInt)) << 1
		}
		a := of(1+next(40), w, time, uint32(next(int(w))), time+vtime.Time(next(later)>>next(60)), uint32(next(int(w))))
		if next(20) == 0 {
			a.R = w
		}
		l = append(l, turn{max(next(5)-2, 0), a})
	}
	return l
}

func (p *pair) take(t *testing.T, x turn) api.Errno {
	t.Helper()
	var got, is api.Errno
	var a, b item.Item
	switch x.kind {
	case 0:
		got, is = p.q.Join(x.a), p.m.join(x.a)
	case 1:
		a, got = p.q.Leave(x.a.ID)
		b, is = p.m.leave(x.a.ID)
	case 2:
		got, is = p.q.Change(x.a), p.m.change(x.a)
	}
	if got != is || a != b {
		t.Fatalf("%+v, of %+v: %+v, %d, wanted %+v, %d", x, p.m.l, a, got, b, is)
	}
	return got
}

func TestP14_2Turns(t *testing.T) {
	told := map[[2]int]int{}
	for seed := range 6 {
		p := newPair(origins()[seed])
		kept := p.clone()
		for i, x := range turns(seed, 250) {
			told[[2]int{x.kind, int(p.take(t, x))}]++
			p.check(t)
			if i%40 == 0 {
				// A clone that is left behind stays what it was, and goes on as well as the queue itself.
				kept.check(t)
				p, kept = p.clone(), p
			}
		}
	}
	for _, c := range [][2]int{
		{0, int(api.OK)}, {0, int(api.ErrArg)}, {0, int(api.ErrThere)}, {0, int(api.ErrSpread)},
		{1, int(api.OK)}, {1, int(api.ErrNone)},
		{2, int(api.OK)}, {2, int(api.ErrArg)}, {2, int(api.ErrNone)}, {2, int(api.ErrSpread)},
	} {
		if told[c] < 10 {
			t.Errorf("of the kind %d the error %d was told %d times", c[0], c[1], told[c])
		}
	}
}

// same: do two queues, one shifted, tell the same?
func same(t *testing.T, q, r *queue.Queue, by vtime.Time) {
	t.Helper()
	if r.Now() != q.Now()+by || r.Len() != q.Len() || r.Spread() != q.Spread() {
		t.Fatalf("shifted by %d now is %d, the spread %d, wanted %d, %d", by, r.Now(), r.Spread(), q.Now()+by, q.Spread())
	}
	if !slices.Equal(r.Items(), shifted(by, q.Items())) {
		t.Fatalf("shifted by %d there are %+v, wanted %+v", by, r.Items(), q.Items())
	}
	for id := range 45 {
		a, ok := q.Get(id)
		b, is := r.Get(id)
		if ok != is || ok && b != a.Shift(by) {
			t.Fatalf("shifted by %d: %+v, %v, wanted %+v, %v", by, b, is, a, ok)
		}
		lag, e := q.Lag(id)
		other, f := r.Lag(id)
		sign, g := q.Owed(id)
		turned, h := r.Owed(id)
		if lag != other || e != f || sign != turned || g != h {
			t.Fatalf("shifted by %d: the lag %v, %d, wanted %v, %d", by, other, turned, lag, sign)
		}
	}
	a, ok := q.Soonest()
	b, is := r.Soonest()
	if ok != is || ok && b != a.Shift(by) {
		t.Fatalf("shifted by %d the soonest is %+v, %v, wanted %+v, %v", by, b, is, a, ok)
	}
}

func TestP14_4Shifted(t *testing.T) {
	for seed := range 5 {
		for _, by := range append(origins(), 1, half+1) {
			q, r := queue.New(77), queue.New(77+by)
			for _, x := range turns(10+seed, 120) {
				y := turn{x.kind, x.a.Shift(by)}
				var a, b item.Item
				var e, f api.Errno
				switch x.kind {
				case 0:
					e, f = q.Join(x.a), r.Join(y.a)
				case 1:
					a, e = q.Leave(x.a.ID)
					b, f = r.Leave(y.a.ID)
				case 2:
					e, f = q.Change(x.a), r.Change(y.a)
				}
				if e != f || x.kind == 1 && e == api.OK && b != a.Shift(by) {
					t.Fatalf("%+v: %+v, %d, but %+v, %d where it is shifted by %d", x, a, e, b, f, by)
				}
				same(t, q, r, by)
			}
		}
	}
}

func TestAQueuesMeanIsPromoted(t *testing.T) {
	p := pairOf(t, 0, whole(1, 5, 9), whole(2, 8, 8))
	from, ok := p.q.Rebase(5)
	if wanted := (mean.Mean{Base: 5, A: wide.Of(3), W: 2, N: 2}); from != wanted || !ok {
		t.Errorf("from 5 its mean is %+v, %v", from, ok)
	}
	// A mean is a value: what is asked of it changes no queue.
	p.q.Add(whole(3, 9, 9).Pos)
	p.q.Take(whole(1, 5, 9).Pos)
	p.check(t)
}
