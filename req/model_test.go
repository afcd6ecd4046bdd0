package req_test

import (
	"math"
	"math/big"
	"testing"

	"turnstone/item"
	"turnstone/pos"
	"turnstone/req"
	"turnstone/vtime"
)

const (
	end       = vtime.Time(math.MaxUint64)
	half      = vtime.Time(1 << 63)
	mostW     = 1 << 20
	mostSlice = 1 << 40
	grain     = 1 << 20
	farthest  = 1 << 60
)

// origins: wherever times begin, all that is told is the same; what lies near most of these goes round.
func origins() []vtime.Time {
	return []vtime.Time{0, 1, end, end - 1<<59, half, half - 1, 1 << 62, 3 << 62, 88172645463325252}
}

func at(t vtime.Time, r, w uint32) pos.Pos { return pos.Pos{Time: t, R: r, W: w} }

// places that may be.
func places() []pos.Pos {
	var l []pos.Pos
	for _, t := range origins() {
		for _, w := range []uint32{1, 2, 3, 7, 1000, mostW - 1, mostW} {
			l = append(l, at(t, 0, w), at(t, w/2, w), at(t, w-1, w))
		}
	}
	return l
}

// wrongPlaces may not be.
func wrongPlaces() []pos.Pos {
	return []pos.Pos{{}, at(5, 0, 0), at(5, 1, 1), at(5, 3, 3), at(5, 4, 3), at(5, 0, mostW+1), at(5, mostW, mostW), at(5, 0, math.MaxUint32), at(5, math.MaxUint32, math.MaxUint32), at(5, math.MaxUint32, 1)}
}

func slicesThatMayBe() []uint64 {
	return []uint64{1, 2, 3, 5, 1000, 3000001, mostSlice - 1, mostSlice}
}

// wrongSlices may not be: of some of them 2^20 times as many go round to what would do.
func wrongSlices() []uint64 {
	return []uint64{0, mostSlice + 1, 1 << 41, 1 << 44, 1<<44 + 1, 1<<44 + 5, 1<<63 + 1, 1<<63 + 1<<44 + 7, math.MaxUint64}
}

func number(x uint64) *big.Int { return new(big.Int).SetUint64(x) }

// moved is a position so many nanoseconds further, by numbers without bounds.
func moved(p pos.Pos, ns uint64) pos.Pos {
	far := new(big.Int).Mul(number(ns), big.NewInt(grain))
	far.Add(far, number(uint64(p.R)))
	whole, left := new(big.Int).DivMod(far, number(uint64(p.W)), new(big.Int))
	whole.Add(whole, number(uint64(p.Time)))
	whole.Mod(whole, new(big.Int).Lsh(big.NewInt(1), 64))
	return pos.Pos{Time: vtime.Time(whole.Uint64()), R: uint32(left.Uint64()), W: p.W}
}

func mayBePlace(p pos.Pos) bool { return p.W >= 1 && p.W <= mostW && p.R < p.W }

func mayBeSlice(ns uint64) bool { return ns >= 1 && ns <= mostSlice }

// mayBe is what the document says of a request. (Its deadline is never too far away: no more than 2^60, of weight 1.)
func mayBe(r req.Req) bool {
	return mayBePlace(r.Pos) && r.ID > 0 && mayBeSlice(r.Left) && mayBeSlice(r.Slice) && r.Dead == moved(r.Pos, r.Left)
}

// of is a request that may be, of which some is left.
func of(p pos.Pos, id int, left, slice uint64) req.Req {
	return req.Req{Item: item.Item{Pos: p, ID: id, Dead: moved(p, left)}, Left: left, Slice: slice}
}

func asleep(r req.Req) req.Req {
	r.Asleep = true
	return r
}

func shifted(by vtime.Time, r req.Req) req.Req {
	r.Item = r.Shift(by)
	return r
}

// served is a request of which some was served, whether it was renewed, and whether it may be.
func served(r req.Req, ns uint64) (req.Req, bool, bool) {
	if !mayBe(r) || ns == 0 || ns > r.Left {
		return req.Req{}, false, false
	}
	r.Pos = moved(r.Pos, ns)
	if ns < r.Left {
		r.Left -= ns
		return r, false, true
	}
	r.Left = r.Slice
	r.Dead = moved(r.Pos, r.Slice)
	return r, true, true
}

// requests that may be, awake and asleep, with some left, or all, or more than the next one will have.
func requests() []req.Req {
	var l []req.Req
	for i, p := range places() {
		for j, left := range slicesThatMayBe() {
			r := of(p, 1+i*j%33, left, slicesThatMayBe()[(i+j)%len(slicesThatMayBe())])
			r.Asleep = (i+j)%3 == 0
			l = append(l, r)
		}
	}
	return l
}

// wrong are requests that may not be, each in one thing alone.
func wrong() map[string]req.Req {
	l := map[string]req.Req{"the zero one": {}, "the zero one, asleep": {Asleep: true}}
	put := func(what string, change func(r *req.Req)) {
		r := of(at(5, 1, 3), 7, 4, 9)
		change(&r)
		l[what] = r
	}
	put("ID 0", func(r *req.Req) { r.ID = 0 })
	put("ID below 0", func(r *req.Req) { r.ID = -7 })
	put("the least ID", func(r *req.Req) { r.ID = math.MinInt })
	put("its time", func(r *req.Req) { r.Time++ })
	put("its time, ahead", func(r *req.Req) { r.Time-- })
	put("its rest", func(r *req.Req) { r.R = 2 })
	put("its rest too great", func(r *req.Req) { r.R = 3 })
	put("its rest, and the time that makes good for it", func(r *req.Req) { r.R, r.Time = 4, 4 })
	put("its weight", func(r *req.Req) { r.W = 4 })
	put("no weight", func(r *req.Req) { r.W = 0 })
	put("no weight, of both", func(r *req.Req) { r.W, r.Dead.W = 0, 0 })
	put("its deadline's time", func(r *req.Req) { r.Dead.Time++ })
	put("its deadline's time, ahead", func(r *req.Req) { r.Dead.Time-- })
	put("its deadline's time, half of the way round", func(r *req.Req) { r.Dead.Time += half })
	put("its deadline's rest", func(r *req.Req) { r.Dead.R = (r.Dead.R + 1) % 3 })
	put("its deadline's rest, the other one", func(r *req.Req) { r.Dead.R = (r.Dead.R + 2) % 3 })
	put("its deadline's weight", func(r *req.Req) { r.Dead.W = 4 })
	put("no deadline", func(r *req.Req) { r.Dead = pos.Pos{} })
	put("a deadline where it is", func(r *req.Req) { r.Dead = r.Pos })
	put("a deadline of the other size", func(r *req.Req) { r.Dead = moved(r.Pos, r.Slice) })
	put("one more left", func(r *req.Req) { r.Left++ })
	put("one less left", func(r *req.Req) { r.Left-- })
	put("nothing left", func(r *req.Req) { r.Left = 0 })
	put("nothing left, and due where it is", func(r *req.Req) { r.Left, r.Dead = 0, r.Pos })
	for _, ns := range wrongSlices() {
		name := number(ns).String()
		put("of the slice "+name, func(r *req.Req) { r.Slice = ns })
		put("so much left: "+name, func(r *req.Req) { r.Left = ns })
		put("so much left, and due as it would be: "+name, func(r *req.Req) { r.Left, r.Dead = ns, moved(r.Pos, ns) })
		put("so much left, and due as if that went round: "+name, func(r *req.Req) { r.Left, r.Dead = ns, moved(r.Pos, ns%(1<<44)) })
	}
	for _, w := range []uint32{mostW + 1, math.MaxUint32} {
		put("too heavy: "+number(uint64(w)).String(), func(r *req.Req) { *r = of(at(5, 1, w), 7, 4, 9) })
	}
	put("a rest too great, and due as it would be", func(r *req.Req) { *r = of(at(5, 3, 3), 7, 4, 9) })
	return l
}

// none: was nothing told?
func none(t *testing.T, what string, r req.Req, ok bool) {
	t.Helper()
	if r != (req.Req{}) || ok {
		t.Errorf("%s: %+v, %v", what, r, ok)
	}
}

// is: was just this told?
func is(t *testing.T, what string, got req.Req, ok bool, wanted req.Req) {
	t.Helper()
	if got != wanted || !ok {
		t.Errorf("%s: %+v, %v, wanted %+v", what, got, ok, wanted)
	}
}

// chance: numbers without a pattern, but always the same.
func chance(seed int) func(n int) int {
	x := uint64(seed)*2 + 88172645463325253
	return func(n int) int {
		x ^= x << 13
		x ^= x >> 7
		x ^= x << 17
		return int(x >> 8 % uint64(n))
	}
}
