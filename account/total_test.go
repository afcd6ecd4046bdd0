package account

import (
	"math"
	"testing"

	"turnstone/api"
	"turnstone/limits"
)

// Ticks are many till a number goes round, so they are put there by hand.
func TestP22_1TotalGoesRound(t *testing.T) {
	const most = math.MaxUint64
	b, _ := New(limits.Config{Cores: 2, Tasks: 3, Tick: 9, Slice: 9})
	b.entries = []Entry{{most, most, most, most}, {1, 2, 3, 4}, {10, 20, 30, 40}}
	b.counts = []Count{{most, most, most}, {5, 6, 7}}
	if entry, count := b.Total(); entry != (Entry{10, 21, 32, 43}) || count != (Count{4, 5, 6}) {
		t.Errorf("all together are %+v, %+v", entry, count)
	}
	// An entry and a count go round, too.
	b.Spawn(0, 1, 9)
	b.entries[0], b.counts[0] = Entry{Served: most}, Count{Busy: most}
	if e := b.Tick(9); e != api.OK || b.entries[0] != (Entry{8, 1, 1, 0}) || b.counts[0] != (Count{Busy: 8}) {
		t.Errorf("%d: %+v, %+v", e, b.entries[0], b.counts[0])
	}
}
