package query_test

import (
	"math"
	"slices"
	"strings"
	"testing"

	"turnstone/account"
	"turnstone/limits"
	"turnstone/query"
	"turnstone/table"
	"turnstone/wide"
)

// eachItsOwn has another number in each of its fields.
func eachItsOwn() query.Row {
	return query.Row{
		Task:  table.Task{ID: 11, State: table.Sleeping, Core: 12, W: 13, Slice: 14, Lag: 99},
		Lag:   wide.Of(-15),
		Left:  16,
		Entry: account.Entry{Served: 17, Requests: 18, Parts: 19, Gone: 20},
	}
}

func eachItsOwnCore() query.Core {
	return query.Core{Number: 11, Run: 12, Runnable: 13, Lingering: 14, Weight: 15, Carried: wide.Of(16), Count: account.Count{Busy: 17, Idle: 18, Switches: 19}}
}

func TestP23_2Lines(t *testing.T) {
	runs := eachItsOwn()
	runs.Runs, runs.Task.State = true, table.Runnable
	for _, c := range []struct {
		row  query.Row
		line string
	}{
		{query.Row{}, "0 free 0 0 0 0 0 waits 0 0 0 0"},
		{eachItsOwn(), "11 sleeping 12 13 14 -15 16 waits 17 18 19 20"},
		{runs, "11 runnable 12 13 14 -15 16 runs 17 18 19 20"},
		{
			query.Row{
				Task:  table.Task{ID: math.MinInt64, State: 255, Core: math.MaxInt64, W: math.MaxUint32, Slice: math.MaxUint64, Lag: math.MinInt64},
				Lag:   wide.Int{Hi: math.MinInt64},
				Left:  math.MaxUint64 - 1,
				Runs:  true,
				Entry: account.Entry{Served: math.MaxUint64 - 2, Requests: math.MaxUint64 - 3, Parts: math.MaxUint64 - 4, Gone: math.MaxUint64 - 5},
			},
			"-9223372036854775808 other 9223372036854775807 4294967295 18446744073709551615 -170141183460469231731687303715884105728" +
				" 18446744073709551614 runs 18446744073709551613 18446744073709551612 18446744073709551611 18446744073709551610",
		},
		{
			query.Row{Task: table.Task{ID: math.MaxInt64, Core: -1}, Lag: wide.Int{Hi: math.MaxInt64, Lo: math.MaxUint64}},
			"9223372036854775807 free -1 0 0 170141183460469231731687303715884105727 0 waits 0 0 0 0",
		},
	} {
		if got := query.Lines(c.row); !slices.Equal(got, []string{c.line}) {
			t.Errorf("of %+v the lines are %q, wanted %q", c.row, got, c.line)
		}
	}
}

func TestP23_2States(t *testing.T) {
	for n := range 256 {
		state := "other"
		switch n {
		case 0:
			state = "free"
		case 1:
			state = "runnable"
		case 2:
			state = "lingering"
		case 3:
			state = "sleeping"
		}
		row := query.Row{Task: table.Task{State: uint8(n)}}
		if got := query.Lines(row); !slices.Equal(got, []string{"0 " + state + " 0 0 0 0 0 waits 0 0 0 0"}) {
			t.Errorf("of the state %d the lines are %q", n, got)
		}
	}
}

func TestP23_2CoreLines(t *testing.T) {
	for _, c := range []struct {
		core query.Core
		line string
	}{
		// The document's example.
		{query.Core{}, "core 0 0 0 0 0 0 0 0 0"},
		{eachItsOwnCore(), "core 11 12 13 14 15 16 17 18 19"},
		{
			query.Core{
				Number: math.MinInt64, Run: math.MaxInt64, Runnable: -1, Lingering: -2, Weight: math.MaxUint64, Carried: wide.Int{Hi: math.MaxInt64, Lo: math.MaxUint64},
				Count: account.Count{Busy: math.MaxUint64 - 1, Idle: math.MaxUint64 - 2, Switches: math.MaxUint64 - 3},
			},
			"core -9223372036854775808 9223372036854775807 -1 -2 18446744073709551615 170141183460469231731687303715884105727 18446744073709551614 18446744073709551613 18446744073709551612",
		},
		{query.Core{Carried: wide.Of(-3)}, "core 0 0 0 0 0 -3 0 0 0"},
	} {
		if got := query.CoreLines(c.core); !slices.Equal(got, []string{c.line}) {
			t.Errorf("of %+v the lines are %q, wanted %q", c.core, got, c.line)
		}
	}
}

func TestP23_2OneOfEachInOrder(t *testing.T) {
	if got := query.Lines(); len(got) != 0 {
		t.Errorf("of no rows there are %q", got)
	}
	if got := query.CoreLines(); len(got) != 0 {
		t.Errorf("of no cores there are %q", got)
	}
	var rows []query.Row
	var cores []query.Core
	for _, n := range []int{5, 3, 3, 0, 9, -1, 5} {
		row, core := eachItsOwn(), eachItsOwnCore()
		row.Task.ID, core.Number = n, n
		rows, cores = append(rows, row), append(cores, core)
		checkLines(t, rows, cores)
	}
	if got := query.Lines(rows...); len(got) != 7 || !strings.HasPrefix(got[0], "5 ") || !strings.HasPrefix(got[5], "-1 ") {
		t.Errorf("the lines are %q", got)
	}
}

func TestP23_2LeavesItsRowsAlone(t *testing.T) {
	rows := []query.Row{eachItsOwn(), {}, eachItsOwn()}
	cores := []query.Core{eachItsOwnCore(), {}, eachItsOwnCore()}
	lines, coreLines := query.Lines(rows[:1]...), query.CoreLines(cores[:1]...)
	others, otherCores := query.Lines(rows[:1]...), query.CoreLines(cores[:1]...)
	clear(lines)
	clear(coreLines)
	_, _ = append(lines, "x"), append(coreLines, "x")
	if !slices.Equal(rows, []query.Row{eachItsOwn(), {}, eachItsOwn()}) || !slices.Equal(cores, []query.Core{eachItsOwnCore(), {}, eachItsOwnCore()}) {
		t.Errorf("what was handed in is %+v, %+v now", rows, cores)
	}
	if others[0] != lineOf(rows[0]) || otherCores[0] != coreLineOf(cores[0]) {
		t.Errorf("other answers are %q, %q now", others, otherCores)
	}
}

func TestP23_2LinesOfABook(t *testing.T) {
	b := bookOf(t, small(0), lingers()...)
	wanted := []string{
		"1 lingering 0 1 5 -2097152 1 waits 4 0 1 0",
		"2 runnable 0 1 9 2097152 9 runs 0 0 0 0",
		"3 runnable 1 3 4 0 4 runs 4 1 1 0",
	}
	if got := query.Lines(query.Tasks(b)...); !slices.Equal(got, wanted) {
		t.Errorf("the lines are %q, wanted %q", got, wanted)
	}
	wanted = []string{"core 0 2 1 1 2 4 4 0 2", "core 1 3 1 0 3 2 4 0 1"}
	if got := query.CoreLines(query.Cores(b)...); !slices.Equal(got, wanted) {
		t.Errorf("the cores' lines are %q, wanted %q", got, wanted)
	}
	do(t, b, ticks(5))
	if got := query.Lines(query.Tasks(b, table.Sleeping)...); !slices.Equal(got, []string{"1 sleeping 0 1 5 524288 0 waits 4 0 1 1"}) {
		t.Errorf("the lines are %q", got)
	}
}

func TestP23_2TheExample(t *testing.T) {
	for _, origin := range origins() {
		b := bookOf(t, limits.Config{Cores: 1, Tasks: 1, Tick: 1, Slice: 1, Origin: origin})
		if got := query.CoreLines(query.Cores(b)...); !slices.Equal(got, []string{"core 0 0 0 0 0 0 0 0 0"}) {
			t.Errorf("of one core and nobody the lines are %q", got)
		}
	}
}
