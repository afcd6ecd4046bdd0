package settle_test

import (
	"math"
	"slices"
	"testing"

	"turnstone/api"
	"turnstone/req"
	"turnstone/set"
	"turnstone/settle"
	"turnstone/vtime"
	"turnstone/wide"
)

// ids of those who went.
func ids(gone []settle.Gone) []int {
	var l []int
	for _, g := range gone {
		l = append(l, g.ID)
	}
	return l
}

func TestP17_1Flush(t *testing.T) {
	for _, c := range []struct {
		what string
		l    []req.Req
		gone []int
		lags []int64
	}{
		{"nobody", nil, nil, nil},
		{"nobody lingers", []req.Req{whole(1, 3, 5), whole(2, 9, 5)}, nil, nil},
		{"one alone", []req.Req{asleep(whole(1, 3, 5))}, []int{1}, []int64{0}},
		{"one that is owed 3", []req.Req{asleep(whole(1, 3, 5)), whole(2, 9, 5)}, []int{1}, []int64{3}},
		{"one that is owed nothing", []req.Req{whole(1, 6, 5), asleep(whole(2, 6, 5))}, []int{2}, []int64{0}},
		{"one that is owed a half", []req.Req{asleep(whole(1, 6, 5)), whole(2, 7, 5)}, []int{1}, []int64{0}},
		{"one that owes a half", []req.Req{whole(1, 6, 5), asleep(whole(2, 7, 5))}, nil, nil},
		{"one that owes 3", []req.Req{whole(1, 3, 5), asleep(whole(2, 9, 5))}, nil, nil},
		{"one that owes less than a grain", []req.Req{of(1, at(3, 0, mostW), 5, 5), asleep(of(2, at(3, 1, mostW), 5, 5))}, nil, nil},
		{"one that is owed less than a grain", []req.Req{asleep(of(1, at(3, 0, mostW), 5, 5)), of(2, at(3, 1, mostW), 5, 5)}, []int{1}, []int64{0}},
		{"two, the lesser ID ahead, though it is owed less", []req.Req{asleep(whole(7, 5, 5)), asleep(whole(8, 1, 5)), whole(9, 12, 5)}, []int{7, 8}, []int64{1, 5}},
		{"one that may go once another one went", []req.Req{asleep(whole(2, 1, 5)), asleep(whole(1, 5, 5)), whole(3, 7, 5)}, []int{2, 1}, []int64{3, 1}},
		{"one that may not go yet once another one went", []req.Req{asleep(whole(2, 1, 5)), asleep(whole(1, 7, 5)), whole(3, 5, 5)}, []int{2}, []int64{3}},
		{"all, since all sleep", []req.Req{asleep(whole(1, 9, 5)), asleep(whole(2, 1, 5)), asleep(whole(3, 2, 5))}, []int{2, 3, 1}, []int64{3, 3, 0}},
	} {
		for _, by := range origins() {
			s := setOf(t, by, c.l...)
			gone, _ := settles(t, s)
			if !slices.Equal(ids(gone), c.gone) {
				t.Errorf("%s: there went %v, wanted %v", c.what, ids(gone), c.gone)
			}
			for i, g := range gone {
				if g.Lag != wide.Of(c.lags[i]) {
					t.Errorf("%s: of %d the lag is %v, wanted %d", c.what, g.ID, g.Lag, c.lags[i])
				}
			}
		}
	}
}

func TestP17_1WhoWentIsToldWithItsRequest(t *testing.T) {
	for _, by := range origins() {
		r := asleep(of(5, at(3, 6, 7), 4, 9))
		s := setOf(t, by, r, whole(1, 9, 5))
		lag, _ := s.Lag(5)
		wanted := settle.Gone{ID: 5, Lag: lag, Req: shifted(by, r)}
		if gone := settle.Flush(s); !slices.Equal(gone, []settle.Gone{wanted}) {
			t.Errorf("there went %+v, wanted %+v", gone, wanted)
		}
		if _, there := s.Req(5); there || s.Len() != 1 || !wanted.Req.Asleep {
			t.Error("who went is there yet, or awake")
		}
	}
}

func TestP17_1LeastIDAtEachStep(t *testing.T) {
	// All of them may go, in whatever order they came.
	for _, step := range []int{1, 3, 5, 7, 31} {
		s := set.New(5)
		for i := range mostN {
			s.Enter(asleep(whole(i*step%mostN+1, 5, uint64(i)+1)))
		}
		gone, run := settles(t, s)
		for i, g := range gone {
			if g.ID != i+1 {
				t.Errorf("at the place %d there went %d", i, g.ID)
			}
		}
		if len(gone) != mostN || run != 0 || s.Now() != 5 {
			t.Errorf("there went %d, %d runs, and now is %d", len(gone), run, s.Now())
		}
	}
}

func TestP17_1Nil(t *testing.T) {
	if gone := settle.Flush(nil); len(gone) != 0 {
		t.Errorf("of nil there went %+v", gone)
	}
	if gone, run := settle.Settle(nil); len(gone) != 0 || run != 0 {
		t.Errorf("of nil there went %+v, and %d runs", gone, run)
	}
}

func TestP17_1AnswersAreNewMemory(t *testing.T) {
	s := setOf(t, 0, asleep(whole(1, 1, 5)), asleep(whole(2, 2, 5)), whole(3, 9, 5))
	u := s.Clone()
	gone, other := settle.Flush(s), settle.Flush(u)
	wanted := slices.Clone(gone)
	clear(gone)
	_ = append(gone[:1], settle.Gone{ID: 7})
	if !slices.Equal(other, wanted) || len(wanted) != 2 {
		t.Errorf("there went %+v, wanted %+v", other, wanted)
	}
}

func TestP17_2WhoRuns(t *testing.T) {
	for _, c := range []struct {
		what string
		l    []req.Req
		run  int
	}{
		{"nobody", nil, 0},
		{"one alone", []req.Req{whole(4, 3, 5)}, 4},
		{"one alone, of the greatest ID", []req.Req{whole(math.MaxInt, 3, 5)}, math.MaxInt},
		{"one alone, that sleeps", []req.Req{asleep(whole(4, 3, 5))}, 0},
		{"some that sleep", []req.Req{asleep(whole(1, 9, 5)), asleep(whole(2, 1, 5)), asleep(whole(3, 2, 5))}, 0},
		{"the one that is due first", []req.Req{whole(1, 5, 3), whole(2, 5, 2)}, 2},
		{"of two alike the lesser ID", []req.Req{whole(8, 5, 2), whole(3, 5, 2)}, 3},
		{"the one that is due first had more than its share", []req.Req{whole(1, 5, 3), whole(2, 6, 2)}, 1},
		{"one that is owed nothing", []req.Req{whole(1, 5, 9), whole(2, 6, 2), whole(3, 7, 1)}, 2},
		{"who runs behind one that goes", []req.Req{asleep(whole(1, 1, 1)), whole(2, 5, 9), whole(3, 5, 8)}, 3},
		{"it is owed something behind one that went, and another one isn't yet", []req.Req{asleep(whole(1, 0, 1)), whole(2, 2, 9), whole(3, 4, 1)}, 2},
		{"it is owed nothing only behind one that went", []req.Req{asleep(whole(1, 0, 1)), whole(2, 2, 9), whole(3, 6, 1), whole(4, 10, 1)}, 3},
	} {
		for _, by := range origins() {
			if _, run := settles(t, setOf(t, by, c.l...)); run != c.run {
				t.Errorf("%s: %d runs, wanted %d", c.what, run, c.run)
			}
		}
	}
}

// requests without a pattern, some of them asleep: they lie near one another, or as far as may be.
func requests(next func(n int) int) []req.Req {
	reach, size, heavy := next(62), next(41), next(21)
	var l []req.Req
	for i := range next(mostN) + 1 {
		w := uint32(1 + next(1<<heavy))
		time := vtime.Time(next(1 << reach))
		left := 1 + uint64(next(1<<size))
		r := of(i*7%mostN+1, at(time, uint32(next(int(w))), w), left, 1+uint64(next(mostSlice)))
		r.Asleep = next(3) > 0
		l = append(l, r)
	}
	return l
}

func TestP17_3WhoRunsIsRunnable(t *testing.T) {
	var none, went, stayed int
	next := chance(1)
	for i := range 3000 {
		s := setOf(t, origins()[i%7], requests(next)...)
		awake := s.Runnable()
		gone, run := settles(t, s)
		for _, r := range s.Reqs() {
			if owed, _ := s.Owed(r.ID); r.Asleep && owed >= 0 {
				t.Fatalf("%+v lingers yet", r)
			}
			if r.Asleep {
				stayed++
			}
		}
		r, there := s.Req(run)
		if there != (awake > 0) || r.Asleep || s.Runnable() != awake {
			t.Fatalf("of %d that are runnable %d runs: %+v", awake, run, r)
		}
		if owed, _ := s.Owed(run); there && owed < 0 {
			t.Fatalf("%d runs, and had more than its share", run)
		}
		if awake == 0 && (s.Len() != 0 || run != 0) {
			t.Fatalf("nobody is runnable, and %d linger", s.Len())
		}
		if awake == 0 {
			none++
		}
		went += len(gone)
	}
	if none < 100 || went < 1000 || stayed < 1000 {
		t.Errorf("of %d nobody was runnable, %d went, %d stayed", none, went, stayed)
	}
}

func TestP5SettledNoOriginCanBeTold(t *testing.T) {
	next := chance(2)
	for range 200 {
		l := requests(next)
		for _, by := range origins() {
			gone, run := settle.Settle(setOf(t, by, l...))
			wanted, same := settle.Settle(setOf(t, 0, l...))
			for i := range wanted {
				wanted[i].Req = shifted(by, wanted[i].Req)
			}
			if !slices.Equal(gone, wanted) || run != same {
				t.Fatalf("shifted by %d there went %+v, and %d runs, wanted %+v, %d", by, gone, run, wanted, same)
			}
		}
	}
}

func TestExampleOneThatSleepsGoesAtOnce(t *testing.T) {
	s := setOf(t, 0, whole(1, 5, 9))
	if e := s.Rouse(1, true); e != api.OK {
		t.Fatal(e)
	}
	gone, run := settle.Settle(s)
	if len(gone) != 1 || gone[0].ID != 1 || gone[0].Lag != wide.Of(0) || run != 0 || s.Len() != 0 {
		t.Errorf("there went %+v, and %d runs", gone, run)
	}
}
