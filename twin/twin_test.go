package twin_test

import (
	"fmt"
	"math"
	"slices"
	"strings"
	"testing"

	"turnstone/api"
	"turnstone/machine"
	"turnstone/twin"
)

func TestP28_1From(t *testing.T) {
	for _, c := range []struct {
		text   string
		origin uint64
		wanted string
	}{
		{"system 1 2 9 9 0\n runs", 7, "system 1 2 9 9 7\nruns\n"},
		{"system 1 2 9 9 7", 0, "system 1 2 9 9 0\n"},
		{"system 1 2 9 9 7", 7, "system 1 2 9 9 7\n"},
		{"system 1 2 9 9 0\n", math.MaxUint64, "system 1 2 9 9 18446744073709551615\n"},
		{"\n# one\n  system  1 2   9 9 18446744073709551615 \n\n#\ntick   4  \n tasks  sleeping runnable\n", 1, "system 1 2 9 9 1\ntick 4\ntasks sleeping runnable\n"},
		// Whether the configuration may be isn't asked, and a number of cores or tasks that is too great is another one.
		{"system 0 0 0 0 0", 5, "system 0 0 0 0 5\n"},
		{"system 18446744073709551615 1073741825 18446744073709551615 18446744073709551615 0", 5, "system 1073741824 1073741824 18446744073709551615 18446744073709551615 5\n"},
		{"system 1 2 9 9 0\nspawn abcdefghijklmnop 0 1 5\nexit #\xff\t\nwake #1\nweight a 0\nslice a 18446744073709551615\nmigrate a 9\ntask system\ncores", 3, "system 1 2 9 9 3\nspawn abcdefghijklmnop 0 1 5\nexit #\xff\t\nwake #1\nweight a 0\nslice a 18446744073709551615\nmigrate a 9\ntask system\ncores\n"},
	} {
		isFrom(t, c.text, c.origin, c.wanted, api.OK)
		for _, origin := range origins() {
			checkFrom(t, c.text, origin)
		}
	}
}

func TestP28_1FromErrors(t *testing.T) {
	for _, c := range []struct {
		text string
		e    api.Errno
	}{
		{"", api.ErrShort}, {"\n \n# system 1 1 1 1 1\n", api.ErrShort},
		{strings.Repeat(" ", mostBytes), api.ErrShort}, {strings.Repeat(" ", mostBytes+1), api.ErrLong},
		{"system 1 1 1 1", api.ErrForm}, {"runs", api.ErrForm}, {"system 1 1 1 1 1\nfoo", api.ErrForm}, {"system 1 1 1 1 1\ntick 07", api.ErrForm},
		{"system 1 1 1 1 18446744073709551616", api.ErrRange}, {"system 1 1 1 1 1\ntick 18446744073709551616", api.ErrRange},
		{"system 1 1 1 1 1\nspawn abcdefghijklmnopq 0 1 1", api.ErrLong},
		{"system 1 1 1 1 1\n" + strings.Repeat("runs\n", 1001), api.ErrMany},
	} {
		for _, origin := range origins() {
			isFrom(t, c.text, origin, "", c.e)
		}
	}
}

// longText is a script of just so many bytes, that has no more when it is printed with the Origin 0.
func longText(bytes int) string {
	text := "system 1 2 9 9 0\n"
	name := bytes - len(text) - len("task \n")
	return text + "task " + strings.Repeat("x", name) + "\n"
}

func TestP28_1FromThatGetsTooLong(t *testing.T) {
	full := longText(mostBytes)
	isFrom(t, full, 0, full, api.OK)
	isFrom(t, full, 9, strings.Replace(full, " 0\n", " 9\n", 1), api.OK)
	isFrom(t, full, 10, "", api.ErrLong)
	isFrom(t, full, math.MaxUint64, "", api.ErrLong)
	// 19 bytes more.
	short := longText(mostBytes - 19)
	isFrom(t, short, math.MaxUint64, strings.Replace(short, " 0\n", " 18446744073709551615\n", 1), api.OK)
	isFrom(t, longText(mostBytes-18), math.MaxUint64, "", api.ErrLong)
	// Of the last line feed, where it is missing.
	missing := strings.TrimSuffix(longText(mostBytes+1), "\n")
	isFrom(t, missing, 0, "", api.ErrLong)
	isFrom(t, missing[:mostBytes-1], 0, missing[:mostBytes-1]+"\n", api.OK)
	// What doesn't count makes room.
	isFrom(t, "#"+strings.Repeat("x", 30)+"\n"+longText(mostBytes-32), 1<<40, strings.Replace(longText(mostBytes-32), " 0\n", " 1099511627776\n", 1), api.OK)
	for _, text := range []string{full, short, missing, longText(mostBytes - 18), longText(mostBytes - 1)} {
		for _, origin := range append(origins(), 9, 10, 99, 100) {
			checkFrom(t, text, origin)
		}
	}
}

func TestP28_1FromOfManyScripts(t *testing.T) {
	for seed := range 60 {
		next := chance(seed)
		text := scriptOf(next, 60, one(next, origins()...))
		for _, origin := range origins() {
			checkFrom(t, text, origin)
		}
	}
}

func TestP28_1Twins(t *testing.T) {
	text := "system 1 2 9 9 0\nspawn a 0 1 5\ntick 7\nruns"
	for _, l := range [][]uint64{nil, {}, {0}, {math.MaxUint64 - 4, 77}, {5, 5, 5}, origins()} {
		lines := checkTwins(t, text, l...)
		if !slices.Equal(lines, []string{"ok 1", "ok", "runs 1"}) {
			t.Errorf("the lines are %q", lines)
		}
	}
	// Of a script without commands there are twins, too, each without lines.
	l, e := twin.Twins("system 1 2 9 9 0", 1, 2)
	if len(l) != 3 || len(l[0])+len(l[1])+len(l[2]) != 0 || e != api.OK {
		t.Errorf("there are told %q, %d", l, e)
	}
	// What a command is refused stands among its lines.
	checkTwins(t, "system 1 1 1 1 0\nspawn a 0 1 1\nspawn b 0 1 1\ntick 2\nexit x: ", 3)
}

func TestP28_1TwinsErrors(t *testing.T) {
	for _, c := range []struct {
		text string
		e    api.Errno
	}{
		{"", api.ErrShort}, {strings.Repeat(" ", mostBytes+1), api.ErrLong},
		{"system 1 1 1 1", api.ErrForm}, {"system 1 1 1 1 1\nfoo", api.ErrForm},
		{"system 1 1 1 1 1\ntick 18446744073709551616", api.ErrRange},
		{"system 1 1 1 1 1\n" + strings.Repeat("runs\n", 1001), api.ErrMany},
		// The machine's own.
		{"system 0 1 1 1 1", api.ErrRange}, {"system 1 33 1 1 1\nruns", api.ErrRange}, {"system 1 1 0 1 1", api.ErrRange}, {"system 1 1 1 1099511627777 1", api.ErrRange},
		{"system 0 1 1 1 1\nfoo", api.ErrForm},
	} {
		failTwins(t, c.text, c.e)
		failTwins(t, c.text, c.e, 0)
		failTwins(t, c.text, c.e, origins()...)
	}
}

func TestP28_1TwinsOfTextsThatGetTooLong(t *testing.T) {
	full := longText(mostBytes)
	checkTwins(t, full)
	checkTwins(t, full, 0, 9, 4)
	failTwins(t, full, api.ErrLong, 10)
	failTwins(t, full, api.ErrLong, 0, 9, 10)
	failTwins(t, full, api.ErrLong, math.MaxUint64, 0)
	failTwins(t, full, api.ErrLong, 0, math.MaxUint64, 0)
	// It may be played as it is, but not printed.
	missing := strings.TrimSuffix(longText(mostBytes+1), "\n")
	checkTwins(t, missing)
	failTwins(t, missing, api.ErrLong, 0)
	// The script's own error comes ahead of what From tells.
	failTwins(t, strings.Replace(full, "system 1", "system 0", 1), api.ErrRange, 10)
	failTwins(t, strings.Replace(full, "task ", "tesk ", 1), api.ErrForm, 10)
}

func TestP28_1WhatIsHandedInStays(t *testing.T) {
	l := []uint64{1, 2, 3, 4}
	twin.Twins("system 1 2 9 9 0\nruns", l[:2]...)
	twin.Twins("system 1 2 9 9 0\nruns", l[:0]...)
	twin.Twins("system", l[:2]...)
	if !slices.Equal(l, []uint64{1, 2, 3, 4}) {
		t.Errorf("the origins, or what is beside them, are %v now", l)
	}
}

func TestP28_1AnswersAreNewMemory(t *testing.T) {
	text := "system 1 2 9 9 0\nspawn a 0 1 5\ntick 7\nruns"
	wanted := []string{"ok 1", "ok", "runs 1"}
	l, _ := twin.Twins(text, 0, 0, 7)
	other, _ := twin.Twins(text, 0, 0, 7)
	for i := range l {
		clear(l[i][:cap(l[i])])
		for _, lines := range slices.Concat(l[i+1:], other) {
			if !slices.Equal(lines, wanted) {
				t.Fatalf("the lines are %q now", lines)
			}
		}
	}
	clear(l)
	if !twin.Alike(append(other, wanted)...) {
		t.Errorf("the lines are %q now", other)
	}
}

// someLists are such ones as are alike, and such ones as nearly are.
func someLists() [][]string {
	return [][]string{
		nil, {}, {""}, {"", ""}, {"ok"}, {"ok", "ok 1"}, {"ok", "ok 2"}, {"ok", "ok 1", "runs 1"}, {"ok 1", "ok"}, {"ok", ""}, {"", "ok"},
		{"ok", "ok 1"}, {"ok "}, {" ok"}, {"Ok"}, {"ok\x00"}, {"ok\n"}, {"ok\nok 1"}, {"ok", "ok 1", "runs 1", ""}, slices.Repeat([]string{"ok"}, 500), slices.Repeat([]string{"ok"}, 501),
	}
}

func TestP28_2Differ(t *testing.T) {
	isDiffer(t, []string{"ok", "ok 1"}, []string{"ok", "ok 2"}, 1)
	isDiffer(t, nil, nil, -1)
	isDiffer(t, nil, []string{}, -1)
	isDiffer(t, nil, []string{"a"}, 0)
	isDiffer(t, nil, []string{""}, 0)
	isDiffer(t, []string{"a"}, []string{"b"}, 0)
	isDiffer(t, []string{"a"}, []string{"a"}, -1)
	isDiffer(t, []string{"a"}, []string{"a", ""}, 1)
	isDiffer(t, []string{"a", "b", "c"}, []string{"a", "b"}, 2)
	isDiffer(t, []string{"a", "b", "c"}, []string{"a", "x"}, 1)
	isDiffer(t, []string{"a", "b", "c"}, []string{"x", "b", "x"}, 0)
	isDiffer(t, []string{"a", "b", "c"}, []string{"a", "b", "x"}, 2)
	long := slices.Repeat([]string{"ok"}, 1000)
	for i := range long {
		other := slices.Clone(long)
		other[i] = "ok 1"
		isDiffer(t, long, other, i)
		isDiffer(t, long, long[:i], i)
	}
	isDiffer(t, long, slices.Clone(long), -1)
	for _, a := range someLists() {
		for _, b := range someLists() {
			isDiffer(t, a, b, firstUnlike(a, b))
		}
	}
}

func isAlike(t *testing.T, wanted bool, l ...[]string) {
	t.Helper()
	if got := twin.Alike(l...); got != wanted {
		t.Errorf("of %.300q there is told %v", l, got)
	}
}

func TestP28_2Alike(t *testing.T) {
	isAlike(t, true)
	isAlike(t, true, [][]string{}...)
	isAlike(t, true, nil, []string{}, nil)
	for _, a := range someLists() {
		isAlike(t, true, a)
		isAlike(t, true, a, slices.Clone(a), a)
		for _, b := range someLists() {
			alike := firstUnlike(a, b) < 0
			isAlike(t, alike, a, b)
			isAlike(t, alike, a, a, b)
			isAlike(t, alike, a, b, a)
			isAlike(t, alike, b, a, a)
			// The last two alike, and the first two.
			isAlike(t, alike, a, b, b, b)
			isAlike(t, alike, b, b, b, a)
		}
	}
}

func TestP28_2WhatIsHandedInStays(t *testing.T) {
	a, b := []string{"ok", "ok 1", "x"}, []string{"ok", "ok 2", "y"}
	l := [][]string{a[:2], b[:2], a, b}
	twin.Differ(a[:2], b[:2])
	twin.Alike(l[:2]...)
	twin.Alike(l[:0]...)
	if !slices.Equal(a, []string{"ok", "ok 1", "x"}) || !slices.Equal(b, []string{"ok", "ok 2", "y"}) || len(l[0]) != 2 || len(l[3]) != 3 {
		t.Errorf("there are %q, %q, %q now", a, b, l)
	}
}

func TestP28_3TwinsAreAlike(t *testing.T) {
	told := map[string]int{}
	for seed := range 40 {
		next := chance(100 + seed)
		text := scriptOf(next, 100, one(next, origins()...))
		for _, line := range checkTwins(t, text, append(origins(), uint64(next(1<<40))<<24)...) {
			told[strings.Fields(line)[0]]++
			if strings.HasPrefix(line, "error") {
				told[line]++
			}
		}
	}
	for _, word := range []string{"ok", "runs", "core", "error 3", "error 4", "error 5", "error 6", "error 7"} {
		if told[word] < 20 {
			t.Errorf("of %q there were %d", word, told[word])
		}
	}
}

// farText is a script in which some owe so much that not all fit in one core's times.
func farText(origin uint64) string {
	var b strings.Builder
	fmt.Fprintf(&b, "system 2 9 1099511627776 1099511627776 %d\nspawn a 0 1048576 1099511627776\nspawn b 1 1 1099511627776\n", origin)
	for id := 3; id < 10; id++ {
		fmt.Fprintf(&b, "spawn %d 0 1 1099511627776\ntick 1\ntick 1099511627776\nsleep #%d\nmigrate #%d 1\n", id, id, id)
	}
	for id := 3; id < 10; id++ {
		fmt.Fprintf(&b, "wake #%d\ntick 7\ntasks\ncores\nruns\n", id)
	}
	for id := 3; id < 10; id++ {
		fmt.Fprintf(&b, "weight #%d 2\nwake #%d\ntick 1099511627776\ntasks\ncores\n", id, id)
	}
	return b.String()
}

func TestP28_3FarApart(t *testing.T) {
	for _, origin := range origins() {
		lines := checkTwins(t, farText(origin), origins()...)
		if !slices.Contains(lines, "error 8") {
			t.Error("nobody lies too far apart")
		}
	}
}

// Those of what was printed are alike, too.
func TestP28_3TwinsOfTwins(t *testing.T) {
	for seed := range 6 {
		next := chance(200 + seed)
		text := scriptOf(next, 60, 5)
		wanted, _, _ := machine.Run(text)
		for _, origin := range origins() {
			from, e := twin.From(text, origin)
			if lines := checkTwins(t, from, 5, origin); e != api.OK || !slices.Equal(lines, wanted) {
				t.Fatalf("of %.300q from %d on there are other lines, %d", text, origin, e)
			}
		}
	}
}
