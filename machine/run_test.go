package machine_test

import (
	"fmt"
	"strings"
	"testing"

	"turnstone/account"
	"turnstone/api"
	"turnstone/limits"
	"turnstone/machine"
	"turnstone/script"
)

// gives: a script is played, and those are its lines.
func gives(t *testing.T, text string, wanted ...string) {
	t.Helper()
	got, line, e := machine.Run(text)
	if line != 0 || e != api.OK {
		t.Errorf("of %.200q there is told %d, %d", text, line, e)
	}
	sameLines(t, got, wanted)
}

func sameLines(t *testing.T, got, wanted []string) {
	t.Helper()
	for i := range max(len(got), len(wanted)) {
		if i >= len(got) || i >= len(wanted) || got[i] != wanted[i] {
			t.Fatalf("from the line %d on there is told %.300q, wanted %.300q", i, got[min(i, len(got)):], wanted[min(i, len(wanted)):])
		}
	}
}

// fails: beside the error there is a line's number, and no lines.
func fails(t *testing.T, text string, line int, e api.Errno) {
	t.Helper()
	if l, at, f := machine.Run(text); len(l) != 0 || at != line || f != e {
		t.Errorf("of %.200q there is told %q, %d, %d, wanted %d, %d", text, l, at, f, line, e)
	}
}

func TestP25_3TheExample(t *testing.T) {
	gives(t, "system 1 2 9 9 0\nspawn a 0 1 5\ntick 7\nruns", "ok 1", "ok", "runs 1")
	gives(t, "system 1 2 9 9 0\nspawn a 0 1 5\ntick 7\nruns\nwake a\ntask #1\n", "ok 1", "ok", "runs 1", "error 6", "1 runnable 0 1 5 0 3 runs 7 1 2 0")
}

func TestP25_3Scripts(t *testing.T) {
	gives(t, "system 1 2 9 9 0")
	gives(t, "system 1 2 9 9 0\n\n# nothing\n")
	gives(t, "system 2 2 9 9 0\ntasks\ncores\ntasks sleeping\nruns", "core 0 0 0 0 0 0 0 0 0", "core 1 0 0 0 0 0 0 0 0", "runs 0 0")
	gives(t, "# two\nsystem 2 5 9 20 7\nspawn a 0 1 5\nspawn b 0 1 9\nspawn c 1 3 4\ntick 4\nsleep a\n  task   a\ntick 5\ntasks sleeping runnable\nmigrate b 1\nruns\nexit a\nexit a\nspawn a 9 9 9\nwake #2\nweight #3 4\nslice c 21\ncores",
		"ok 1", "ok 2", "ok 3", "ok", "ok", "1 lingering 0 1 5 -2097152 1 waits 4 0 1 0", "ok",
		"1 sleeping 0 1 5 524288 0 waits 4 0 1 1", "2 runnable 0 1 9 0 4 runs 5 0 1 0", "3 runnable 1 3 4 0 3 runs 9 2 3 0",
		"ok", "runs 0 3", "ok", "error 4", "error 5", "error 6", "ok", "error 3",
		"core 0 0 0 0 0 524296 9 0 3", "core 1 3 2 0 5 6 9 0 1")
	// Who comes in is told by the label from then on, and ahead of that nobody is.
	gives(t, "system 1 3 9 9 0\nexit a\nspawn a 0 1 5\nspawn a 0 1 5\nexit a\nexit a\nexit #1\nspawn #2 0 1 1\nexit #2\nexit #01",
		"error 4", "ok 1", "ok 2", "ok", "error 4", "ok", "ok 1", "error 4", "ok")
	// A refused command stops nothing, and so a run tells no error of one.
	gives(t, "system 1 1 1 1 0\nspawn a 0 1 1\nspawn b 0 1 1\ntick 2\ntick 1\ntask b\ntask a", "ok 1", "error 7", "error 3", "ok", "error 4", "1 runnable 0 1 1 0 1 runs 1 1 1 0")
}

func TestP25_3Errors(t *testing.T) {
	fails(t, "", 0, api.ErrShort)
	fails(t, "# system 1 1 1 1 1\n", 0, api.ErrShort)
	fails(t, strings.Repeat(" ", 65537), 0, api.ErrLong)
	fails(t, "\nsystem 1 1 1 1", 2, api.ErrForm)
	fails(t, "spawn a 0 1 5", 1, api.ErrForm)
	fails(t, "system 1 1 1 1 1\nruns\ntick", 3, api.ErrForm)
	fails(t, "system 1 1 1 1 1\n\nspawn abcdefghijklmnopq 0 1 1\nfoo", 3, api.ErrLong)
	fails(t, "system 1 1 1 1 1\ntick 18446744073709551616", 2, api.ErrRange)
	fails(t, "system 1 1 1 1 1\n"+strings.Repeat("runs\n", 1001), 1002, api.ErrMany)
	// New's error is told of no line, and behind all of Parse's.
	for _, line := range []string{"system 0 1 1 1 1", "system 9 1 1 1 1", "system 1 0 1 1 1", "system 1 33 1 1 1", "system 1 1 0 1 1", "system 1 1 1 0 1", "system 1 1 1099511627777 1 1", "system 1 1 1 1099511627777 1", "system 18446744073709551615 1 1 1 1"} {
		fails(t, line, 0, api.ErrRange)
		fails(t, "\n"+line+"\nruns\nspawn a 0 1 1", 0, api.ErrRange)
		fails(t, line+"\nruns\nfoo", 3, api.ErrForm)
	}
}

func TestP25_3TheGreatestScript(t *testing.T) {
	lines, line, e := machine.Run("system 8 32 9 9 18446744073709551615\n" + strings.Repeat("spawn a 7 1048576 9\n", 32) + strings.Repeat("tasks\n", 967) + "tick 9")
	if len(lines) != 32+32*967+1 || line != 0 || e != api.OK || lines[31] != "ok 32" || lines[len(lines)-2] != "32 runnable 7 1048576 9 0 9 waits 0 0 0 0" {
		t.Errorf("there are %d lines, %d, %d", len(lines), line, e)
	}
}

// scriptOf are commands without a pattern, such as a script may have.
func scriptOf(next func(n int) int, c limits.Config, n int) []script.Command {
	var l []script.Command
	for len(l) < n {
		x := commandOf(next, c)
		x.Line = 0
		if _, e := script.Print(c, x); e == api.OK {
			l = append(l, x)
			continue
		}
		// What its line doesn't tell isn't there.
		if x.Op != spawn {
			x.Label = ""
		}
		if x.Op == spawn || x.Op == tick || x.Op >= tasks {
			x.On = ""
		}
		if x.Op != tasks {
			x.States = nil
		}
		if _, e := script.Print(c, x); e == api.OK {
			l = append(l, x)
		}
	}
	return l
}

func TestP25_3Runs(t *testing.T) {
	seen := map[uint8]int{}
	for seed := range 40 {
		next := chance(500 + seed)
		c := limits.Config{Cores: 1 + next(3), Tasks: []int{3, 8, mostTasks}[next(3)], Tick: uint64(1 + next(200)), Slice: uint64(1 + next(60)), Origin: origins()[seed%4]}
		l := scriptOf(next, c, 100)
		b, _ := account.New(c)
		m := model{b: b}
		var wanted []string
		for _, x := range l {
			seen[x.Op]++
			wanted = append(wanted, m.do(x)...)
		}
		text, e := script.Print(c, l...)
		if e != api.OK {
			t.Fatalf("of %+v there is printed nothing: %d", l, e)
		}
		gives(t, text, wanted...)
	}
	for op := range uint8(ops) {
		if seen[op] < 20 {
			t.Errorf("of the Op %d there were %d", op, seen[op])
		}
	}
}

func TestP25_4NoOriginCanBeTold(t *testing.T) {
	for seed := range 20 {
		next := chance(900 + seed)
		c := limits.Config{Cores: 1 + next(3), Tasks: []int{3, 8, mostTasks}[next(3)], Tick: uint64(1 + next(200)), Slice: uint64(1 + next(60))}
		l := scriptOf(next, c, 100)
		var first []string
		for i, origin := range append(origins(), 1, 1<<63-1, 1<<62, uint64(next(1<<40))<<24) {
			c.Origin = origin
			text, _ := script.Print(c, l...)
			lines, _, e := machine.Run(text)
			if i == 0 {
				first = lines
			}
			if e != api.OK {
				t.Fatalf("from %d there is told %d", origin, e)
			}
			sameLines(t, lines, first)
		}
	}
}

func TestP25_4TheWordsAlone(t *testing.T) {
	for seed := range 10 {
		next := chance(950 + seed)
		c := limits.Config{Cores: 2, Tasks: 8, Tick: 50, Slice: 20, Origin: origins()[seed%4]}
		text, _ := script.Print(c, scriptOf(next, c, 80)...)
		wanted, _, e := machine.Run(text)
		if e != api.OK || len(wanted) == 0 {
			t.Fatalf("of %q: %d", text, e)
		}
		// The same words, laid out otherwise, and with lines between that don't count.
		gives(t, strings.ReplaceAll(text, " ", "   "), wanted...)
		gives(t, strings.ReplaceAll(text, "\n", " \n# exit #1\n \n  "), wanted...)
		gives(t, strings.TrimSuffix(text, "\n"), wanted...)
		gives(t, fmt.Sprint("#\n\n", text), wanted...)
	}
}
