package req_test

import (
	"math"
	"slices"
	"testing"

	"turnstone/item"
	"turnstone/pos"
	"turnstone/req"
	"turnstone/vtime"
)

func TestP15_1New(t *testing.T) {
	for _, p := range places() {
		for _, slice := range slicesThatMayBe() {
			for _, id := range []int{1, 2, 33, math.MaxInt} {
				got, ok := req.New(p, id, slice)
				wanted := req.Req{Item: item.Item{Pos: p, ID: id, Dead: moved(p, slice)}, Left: slice, Slice: slice}
				is(t, "new", got, ok, wanted)
				if !mayBe(got) || !got.Right() {
					t.Errorf("%+v may not be", got)
				}
			}
		}
	}
	got, ok := req.New(at(1, 0, 1), 1, 3)
	is(t, "of 3 nanoseconds", got, ok, req.Req{Item: item.Item{Pos: at(1, 0, 1), ID: 1, Dead: at(1+3<<20, 0, 1)}, Left: 3, Slice: 3})
	got, ok = req.New(at(end, 2, 3), 5, 1)
	is(t, "over the end", got, ok, req.Req{Item: item.Item{Pos: at(end, 2, 3), ID: 5, Dead: at(349525, 0, 3)}, Left: 1, Slice: 1})
	got, ok = req.New(at(7, 0, 1), 5, mostSlice)
	is(t, "as far as may be", got, ok, req.Req{Item: item.Item{Pos: at(7, 0, 1), ID: 5, Dead: at(7+farthest, 0, 1)}, Left: mostSlice, Slice: mostSlice})
}

func TestP15_1NewOfWhatMayNotBe(t *testing.T) {
	for _, p := range wrongPlaces() {
		r, ok := req.New(p, 1, 3)
		none(t, "of a wrong place", r, ok)
		for _, slice := range wrongSlices() {
			r, ok := req.New(p, 0, slice)
			none(t, "wrong in all", r, ok)
		}
	}
	for _, p := range places() {
		for _, id := range []int{0, -1, math.MinInt} {
			r, ok := req.New(p, id, 3)
			none(t, "of a wrong ID", r, ok)
		}
		for _, slice := range wrongSlices() {
			r, ok := req.New(p, 1, slice)
			none(t, "of a wrong slice", r, ok)
		}
	}
}

func TestP15_1Right(t *testing.T) {
	for _, r := range requests() {
		if !r.Right() {
			t.Errorf("%+v may be", r)
		}
	}
	for what, r := range wrong() {
		if r.Right() || mayBe(r) {
			t.Errorf("%s: %+v may not be", what, r)
		}
	}
}

func TestP15_1RightAtAllEdges(t *testing.T) {
	// Of each request that may be one thing is turned a little: whether it may be then is told by the model.
	for _, r := range requests() {
		for _, change := range []func(r *req.Req){
			func(r *req.Req) { r.Left++ },
			func(r *req.Req) { r.Left-- },
			func(r *req.Req) { r.Left, r.Dead = r.Left+1, moved(r.Pos, r.Left+1) },
			func(r *req.Req) { r.Left, r.Dead = r.Left-1, moved(r.Pos, r.Left-1) },
			func(r *req.Req) { r.Slice++ },
			func(r *req.Req) { r.Slice-- },
			func(r *req.Req) { r.Dead.R++ },
			func(r *req.Req) { r.Dead.R-- },
			func(r *req.Req) { r.Dead.Time++ },
			func(r *req.Req) { r.R++ },
			func(r *req.Req) { r.W++ },
			func(r *req.Req) { r.W, r.Dead.W = r.W+1, r.W+1 },
			func(r *req.Req) { r.Pos = r.Pos.Shift(half) },
			func(r *req.Req) { r.Item = r.Shift(half) },
			func(r *req.Req) { r.ID = math.MaxInt },
			func(r *req.Req) { r.Asleep = !r.Asleep },
		} {
			turned := r
			change(&turned)
			if got := turned.Right(); got != mayBe(turned) {
				t.Errorf("may %+v be? %v", turned, got)
			}
		}
	}
}

func TestP15_1Moved(t *testing.T) {
	for i, r := range requests() {
		// To any place, of any weight: who it is, and what is left, stays.
		for _, j := range []int{i, 2*i + 7, 5*i + 1} {
			p := places()[j%len(places())]
			wanted := r
			wanted.Pos, wanted.Dead = p, moved(p, r.Left)
			got, ok := r.Moved(p)
			is(t, "moved", got, ok, wanted)
			if !got.Right() {
				t.Errorf("%+v may not be", got)
			}
		}
		got, ok := r.Moved(r.Pos)
		is(t, "to where it is", got, ok, r)
		for _, p := range wrongPlaces() {
			got, ok := r.Moved(p)
			none(t, "to a wrong place", got, ok)
		}
	}
	got, ok := asleep(of(at(1, 0, 1), 1, 2, 3)).Moved(at(9, 1, 2))
	is(t, "of another weight", got, ok, req.Req{Item: item.Item{Pos: at(9, 1, 2), ID: 1, Dead: at(9+1<<20, 1, 2)}, Left: 2, Slice: 3, Asleep: true})
}

func TestP15_1MovedOfWhatMayNotBe(t *testing.T) {
	for what, r := range wrong() {
		for _, p := range []pos.Pos{at(5, 1, 3), at(5, 0, 1), r.Pos, {}} {
			got, ok := r.Moved(p)
			none(t, what, got, ok)
		}
	}
}

func TestP15_1Sliced(t *testing.T) {
	for _, r := range requests() {
		for _, slice := range append(slicesThatMayBe(), r.Left, r.Slice) {
			// What is left, and the deadline, stay.
			wanted := r
			wanted.Slice = slice
			got, ok := r.Sliced(slice)
			is(t, "sliced", got, ok, wanted)
		}
		for _, slice := range wrongSlices() {
			got, ok := r.Sliced(slice)
			none(t, "of a wrong slice", got, ok)
		}
	}
	// The next one has the other size.
	r, _ := of(at(1, 0, 1), 1, 2, 3).Sliced(5)
	got, renewed, ok := r.Serve(2)
	is(t, "the next one", got, ok && renewed, of(at(1+2<<20, 0, 1), 1, 5, 5))
}

func TestP15_1SlicedOfWhatMayNotBe(t *testing.T) {
	for what, r := range wrong() {
		for _, slice := range []uint64{9, 4, 1, r.Left, r.Slice, 0, math.MaxUint64} {
			got, ok := r.Sliced(slice)
			none(t, what, got, ok)
		}
	}
}

// amounts of a request, some of which may be served.
func amounts(r req.Req) []uint64 {
	return []uint64{0, 1, 2, r.Left / 2, r.Left/3 + 1, r.Left - 1, r.Left, r.Left + 1, r.Slice, mostSlice, mostSlice + 1, 1 << 44, 1<<44 + 1, 1 << 63, math.MaxUint64}
}

func serve(t *testing.T, what string, r req.Req, ns uint64) {
	t.Helper()
	got, renewed, ok := r.Serve(ns)
	wanted, again, may := served(r, ns)
	if got != wanted || renewed != again || ok != may {
		t.Errorf("%s: of %+v %d are served: %+v, %v, %v, wanted %+v, %v, %v", what, r, ns, got, renewed, ok, wanted, again, may)
	}
	if ok != got.Right() {
		t.Errorf("%s: %+v, %v, and may it be? %v", what, got, ok, got.Right())
	}
}

func TestP15_2Serve(t *testing.T) {
	for _, r := range requests() {
		for _, ns := range amounts(r) {
			serve(t, "one that may be", r, ns)
		}
	}
	for what, r := range wrong() {
		for _, ns := range amounts(r) {
			if _, _, ok := served(r, ns); ok {
				t.Errorf("%s: by the model %d of it may be served", what, ns)
			}
			serve(t, what, r, ns)
		}
	}
}

func TestP15_2ServeByHand(t *testing.T) {
	r := asleep(of(at(1, 0, 1), 4, 3, 5))
	for _, c := range []struct {
		ns          uint64
		place, dead vtime.Time
		left        uint64
		renewed, ok bool
	}{
		{0, 0, 0, 0, false, false},
		{1, 1 + 1<<20, 1 + 3<<20, 2, false, true},
		{2, 1 + 2<<20, 1 + 3<<20, 1, false, true},
		{3, 1 + 3<<20, 1 + 8<<20, 5, true, true},
		{4, 0, 0, 0, false, false},
		{5, 0, 0, 0, false, false},
		{math.MaxUint64, 0, 0, 0, false, false},
	} {
		var wanted req.Req
		if c.ok {
			wanted = asleep(req.Req{Item: item.Item{Pos: at(c.place, 0, 1), ID: 4, Dead: at(c.dead, 0, 1)}, Left: c.left, Slice: 5})
		}
		if got, renewed, ok := r.Serve(c.ns); got != wanted || renewed != c.renewed || ok != c.ok {
			t.Errorf("by %d: %+v, %v, %v, wanted %+v, %v, %v", c.ns, got, renewed, ok, wanted, c.renewed, c.ok)
		}
	}
}

// servedAll is what the document says of several parts.
func servedAll(r req.Req, parts []uint64) (req.Req, int, bool) {
	times := 0
	for _, ns := range parts {
		if ns > r.Left {
			ns = r.Left
		}
		next, renewed, ok := served(r, ns)
		if !ok {
			return req.Req{}, 0, false
		}
		if renewed {
			times++
		}
		r = next
	}
	return r, times, true
}

func serveAll(t *testing.T, what string, r req.Req, parts ...uint64) {
	t.Helper()
	given := slices.Clone(parts)
	got, times, ok := req.Served(r, parts...)
	wanted, again, may := servedAll(r, parts)
	if got != wanted || times != again || ok != may {
		t.Errorf("%s: of %+v %d are served: %+v, %d, %v, wanted %+v, %d, %v", what, r, parts, got, times, ok, wanted, again, may)
	}
	if !slices.Equal(given, parts) {
		t.Errorf("%s: the parts are %d, and were %d", what, parts, given)
	}
}

func TestP15_2Served(t *testing.T) {
	next := chance(15)
	for _, r := range requests() {
		serveAll(t, "no parts", r)
		for _, ns := range amounts(r) {
			serveAll(t, "one part", r, ns)
		}
		for range 4 {
			var parts []uint64
			for range next(9) {
				parts = append(parts, amounts(r)[next(len(amounts(r)))]>>next(2))
			}
			serveAll(t, "some parts", r, parts...)
			for i, ns := range parts {
				parts[i] = max(ns, 1)
			}
			serveAll(t, "some parts above 0", r, parts...)
		}
	}
	for what, r := range wrong() {
		for _, ns := range amounts(r) {
			got, times, ok := req.Served(r, ns)
			none(t, what, got, ok || times != 0)
			got, times, ok = req.Served(r, ns, 1)
			none(t, what, got, ok || times != 0)
		}
	}
}

func TestP15_2ServedByHand(t *testing.T) {
	r := of(at(1, 0, 1), 1, 3, 3)
	for _, c := range []struct {
		what  string
		parts []uint64
		place vtime.Time
		left  uint64
		times int
		ok    bool
	}{
		{"none", nil, 1, 3, 0, true},
		{"an empty list", []uint64{}, 1, 3, 0, true},
		{"some", []uint64{1}, 1 + 1<<20, 2, 0, true},
		{"all of it", []uint64{1, 2}, 1 + 3<<20, 3, 1, true},
		{"all at once", []uint64{3}, 1 + 3<<20, 3, 1, true},
		{"twice", []uint64{1, 2, 3}, 1 + 6<<20, 3, 2, true},
		{"what is cut off is lost", []uint64{2, 5, 1}, 1 + 4<<20, 2, 1, true},
		{"each is cut", []uint64{math.MaxUint64, mostSlice, 4}, 1 + 9<<20, 3, 3, true},
		{"a part of 0", []uint64{0}, 0, 0, 0, false},
		{"a part of 0 at last", []uint64{3, 3, 0}, 0, 0, 0, false},
		{"a part of 0 between", []uint64{3, 0, 3}, 0, 0, 0, false},
	} {
		var wanted req.Req
		if c.ok {
			wanted = of(at(c.place, 0, 1), 1, c.left, 3)
		}
		if got, times, ok := req.Served(r, c.parts...); got != wanted || times != c.times || ok != c.ok {
			t.Errorf("%s: %+v, %d, %v, wanted %+v, %d, %v", c.what, got, times, ok, wanted, c.times, c.ok)
		}
	}
}

func TestP15_3DeadlineStays(t *testing.T) {
	next := chance(153)
	for _, r := range requests() {
		r.Slice = 1 + r.Slice%1000
		for range 30 {
			ns := 1 + uint64(next(int(r.Left)))>>next(12)
			if ns > r.Left || next(5) == 0 {
				ns = r.Left
			}
			got, renewed, ok := r.Serve(ns)
			switch {
			case !ok || renewed != (ns == r.Left):
				t.Fatalf("of %+v %d are served: %+v, %v, %v", r, ns, got, renewed, ok)
			case renewed && (got.Pos != r.Dead || got.Left != r.Slice || got.Dead != moved(r.Dead, r.Slice)):
				t.Fatalf("%+v is renewed, and is %+v", r, got)
			case !renewed && (got.Dead != r.Dead || got.Left != r.Left-ns):
				t.Fatalf("%+v isn't renewed, and is %+v", r, got)
			}
			r = got
		}
	}
}

func TestP15_3NothingIsLost(t *testing.T) {
	// In whatever parts a request is served, it is renewed at the same place.
	for _, p := range places() {
		const slice = 60
		all, times, ok := req.Served(of(p, 3, slice, slice), slice)
		for part := uint64(1); part <= slice; part++ {
			var parts []uint64
			for left := uint64(slice); left > 0; left -= min(part, left) {
				parts = append(parts, min(part, left))
			}
			got, again, may := req.Served(of(p, 3, slice, slice), parts...)
			if got != all || again != times || times != 1 || !ok || !may {
				t.Errorf("by %d: %+v, %d, %v, wanted %+v, %d, %v", part, got, again, may, all, times, ok)
			}
		}
	}
}

func TestP5OfRequestsNoOriginCanBeTold(t *testing.T) {
	for _, r := range requests() {
		for _, by := range origins() {
			q := shifted(by, r)
			if !q.Right() {
				t.Errorf("shifted by %d %+v may not be", by, r)
			}
			fresh, ok := req.New(r.Pos, r.ID, r.Slice)
			got, may := req.New(q.Pos, q.ID, q.Slice)
			is(t, "new", got, ok && may, shifted(by, fresh))
			fresh, renewed, ok := r.Serve(r.Left/2 + 1)
			got, again, may := q.Serve(r.Left/2 + 1)
			is(t, "served", got, ok && may && renewed == again, shifted(by, fresh))
			fresh, ok = r.Moved(at(77, 1, 5))
			got, may = q.Moved(at(77+by, 1, 5))
			is(t, "moved", got, ok && may, shifted(by, fresh))
			fresh, ok = r.Sliced(8)
			got, may = q.Sliced(8)
			is(t, "sliced", got, ok && may, shifted(by, fresh))
		}
	}
}

func TestARequestsItemIsPromoted(t *testing.T) {
	r, s := of(at(5, 0, 1), 1, 4, 9), of(at(6, 0, 1), 2, 2, 9)
	if !r.Ahead(s.Item) || s.Ahead(r.Item) || r.Due(s.Item) || !s.Due(r.Item) {
		t.Error("a request doesn't stand, or isn't due, as its item does")
	}
	if r.Shift(7) != r.Item.Shift(7) || r.Since(3) != 2 || r.Distance(3) != r.Pos.Distance(3) {
		t.Error("a request doesn't answer what its item answers")
	}
}
