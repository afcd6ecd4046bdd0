package script_test

import (
	"math"
	"slices"
	"strings"
	"testing"

	"turnstone/api"
	"turnstone/limits"
	"turnstone/script"
)

func config() limits.Config {
	return limits.Config{Cores: 1, Tasks: 2, Tick: 3, Slice: 4, Origin: 5}
}

// prints: what is printed is that, and what follows says so, too.
func prints(t *testing.T, text string, c limits.Config, l ...script.Command) {
	t.Helper()
	checkPrint(t, c, l...)
	if got, e := script.Print(c, l...); got != text || e != api.OK {
		t.Errorf("of %+v and %+v there is printed %.200q, %d, wanted %.200q", c, l, got, e, text)
	}
}

// refuses: beside the error there is no text.
func refuses(t *testing.T, wanted api.Errno, c limits.Config, l ...script.Command) {
	t.Helper()
	checkPrint(t, c, l...)
	if got, e := script.Print(c, l...); got != "" || e != wanted {
		t.Errorf("of %+v and %.300v there is printed %.200q, %d, wanted %d", c, l, got, e, wanted)
	}
}

func TestP24_2PrintEachOp(t *testing.T) {
	lines, l := ofEachOp()
	prints(t, head, config())
	prints(t, head+strings.Join(lines, "\n")+"\n", config(), l...)
	for op, c := range l {
		prints(t, head+lines[op]+"\n", config(), c)
		prints(t, head+lines[op]+"\n"+lines[op]+"\n", config(), c, c)
	}
	slices.Reverse(l)
	slices.Reverse(lines)
	prints(t, head+strings.Join(lines, "\n")+"\n", config(), l...)
}

func TestP24_2PrintTheConfiguration(t *testing.T) {
	for _, c := range []struct {
		config limits.Config
		text   string
	}{
		// Whether it may be or not.
		{limits.Config{}, "system 0 0 0 0 0\n"},
		{config(), head},
		{limits.Config{Cores: 1 << 30, Tasks: 1<<30 - 1, Tick: math.MaxUint64, Slice: math.MaxUint64 - 1, Origin: math.MaxUint64 - 2},
			"system 1073741824 1073741823 18446744073709551615 18446744073709551614 18446744073709551613\n"},
		{limits.Config{Cores: 1<<30 - 1, Tasks: 1 << 30, Slice: 1 << 63}, "system 1073741823 1073741824 0 9223372036854775808 0\n"},
	} {
		prints(t, c.text, c.config)
	}
	for _, n := range []int{-1, -2, 1<<30 + 1, 1 << 31, 1 << 32, 1<<32 + 1, math.MaxInt, math.MinInt} {
		for _, c := range []limits.Config{{Cores: n}, {Tasks: n}, {Cores: n, Tasks: n}, {Cores: n, Tasks: 1, Tick: 1, Slice: 1}, {Cores: 1, Tasks: n, Tick: 1, Slice: 1}} {
			refuses(t, api.ErrForm, c)
			refuses(t, api.ErrForm, c, script.Command{Op: 11})
		}
	}
}

func TestP24_2PrintNumbersAndStates(t *testing.T) {
	prints(t, head+"spawn a 18446744073709551615 0 9223372036854775808\n", config(), script.Command{Label: "a", N: []uint64{math.MaxUint64, 0, 1 << 63}})
	prints(t, head+"tick 10\ntick 0\n", config(), script.Command{Op: 7, N: []uint64{10}}, script.Command{Op: 7, N: []uint64{0}})
	prints(t, head+"tasks\n", config(), script.Command{Op: 9})
	prints(t, head+"tasks\n", config(), script.Command{Op: 9, N: []uint64{}, States: []uint8{}})
	prints(t, head+"tasks runnable\ntasks lingering\ntasks sleeping\n", config(), states(1), states(2), states(3))
	prints(t, head+"tasks sleeping runnable sleeping lingering\n", config(), states(3, 1, 3, 2))
	for n := range 256 {
		if s := uint8(n); s < 1 || s > 3 {
			for _, c := range []script.Command{states(s), states(1, s), states(s, 2), states(1, s, 3)} {
				refuses(t, api.ErrForm, config(), c)
			}
		}
	}
}

func states(l ...uint8) script.Command { return script.Command{Op: 9, States: l} }

func TestP24_2PrintDoesntAskForTheLine(t *testing.T) {
	for _, n := range []int{0, 1, 2, -1, math.MinInt, math.MaxInt} {
		prints(t, head+"runs\nexit a\n", config(), script.Command{Line: n, Op: 11}, script.Command{Line: n, Op: 1, On: "a"})
	}
}

func TestP24_2PrintOps(t *testing.T) {
	for op := 12; op < 256; op++ {
		for _, c := range []script.Command{{}, {Label: "a", N: []uint64{1, 2, 3}}, {On: "a"}, {N: []uint64{1}}, {States: []uint8{1}}} {
			c.Op = uint8(op)
			refuses(t, api.ErrForm, config(), c)
			refuses(t, api.ErrForm, config(), script.Command{Op: 11}, c)
		}
	}
}

// What an Op's line doesn't tell may not be there, and what it tells must be.
func TestP24_2PrintWhatTheLineTells(t *testing.T) {
	lines, l := ofEachOp()
	for op, right := range l {
		told := opLines()[op]
		refused := func(alter func(c *script.Command)) {
			t.Helper()
			c := right
			alter(&c)
			refuses(t, api.ErrForm, config(), c)
			refuses(t, api.ErrForm, config(), right, c)
			refuses(t, api.ErrForm, config(), c, right)
		}
		for n := range 6 {
			if n != len(right.N) {
				refused(func(c *script.Command) { c.N = slices.Repeat([]uint64{1}, n) })
			}
		}
		refused(func(c *script.Command) { c.N = append(slices.Clone(c.N), 0) })
		for _, word := range wrongWords(strings.Contains(told, " LABEL")) {
			refused(func(c *script.Command) { c.Label = word })
		}
		for _, word := range wrongWords(strings.Contains(told, " H")) {
			refused(func(c *script.Command) { c.On = word })
		}
		if op != 9 {
			for s := range 6 {
				refused(func(c *script.Command) { c.States = []uint8{uint8(s)} })
			}
		}
		if op == 0 {
			refused(func(c *script.Command) { c.Label, c.On = "", c.Label })
		}
		if right.On != "" {
			refused(func(c *script.Command) { c.Label, c.On = c.On, "" })
		}
		// As it is it may be.
		prints(t, head+lines[op]+"\n", config(), right)
	}
}

// wrongWords are such as may not be, where the line tells one, or where it tells none.
func wrongWords(told bool) []string {
	if told {
		return []string{"", " ", "\n", "a b", " a", "a ", "a\n", "\na", "a\nb", "a  ", "0 1 5", "x\nruns"}
	}
	return []string{"a", " ", "\n", "#", "\x00", "runnable", "1", strings.Repeat("x", 17)}
}

func TestP24_2PrintWordsHaveAnyBytes(t *testing.T) {
	for n := range 256 {
		word := string([]byte{byte(n)})
		for _, w := range []string{word, "a" + word, word + "b", "a" + word + "b", word + "\xff"} {
			spawn, exit, slice := script.Command{Label: w, N: []uint64{1, 2, 3}}, script.Command{Op: 1, On: w}, script.Command{Op: 5, On: w, N: []uint64{7}}
			if n == ' ' || n == '\n' {
				refuses(t, api.ErrForm, config(), spawn)
				refuses(t, api.ErrForm, config(), exit)
				refuses(t, api.ErrForm, config(), slice)
				continue
			}
			prints(t, head+"spawn "+w+" 1 2 3\nexit "+w+"\nslice "+w+" 7\n", config(), spawn, exit, slice)
		}
	}
	for _, w := range []string{"\u00a0", "\u2003", "a\tb", "a\rb", "é", "#", "#1", "##", "-1", "spawn", "system"} {
		prints(t, head+"exit "+w+"\n", config(), script.Command{Op: 1, On: w})
	}
}

func TestP24_2PrintLabels(t *testing.T) {
	for n := 1; n <= 40; n++ {
		word := strings.Repeat("x", n)
		prints(t, head+"wake "+word+"\n", config(), script.Command{Op: 3, On: word})
		c := script.Command{Label: word, N: []uint64{1, 2, 3}}
		if n <= mostLabel {
			prints(t, head+"spawn "+word+" 1 2 3\n", config(), c)
		} else {
			refuses(t, api.ErrForm, config(), c)
		}
	}
	refuses(t, api.ErrForm, config(), script.Command{Label: strings.Repeat("é", 9), N: []uint64{1, 2, 3}})
	prints(t, head+"spawn éééééééé 1 2 3\n", config(), script.Command{Label: strings.Repeat("é", 8), N: []uint64{1, 2, 3}})
}

func TestP24_2PrintMany(t *testing.T) {
	runs := script.Command{Op: 11}
	for n := mostCommands - 1; n <= mostCommands; n++ {
		prints(t, head+strings.Repeat("runs\n", n), config(), slices.Repeat([]script.Command{runs}, n)...)
	}
	for n := mostCommands + 1; n <= mostCommands+3; n++ {
		l := slices.Repeat([]script.Command{runs}, n)
		refuses(t, api.ErrMany, config(), l...)
		// Whatever else is wrong.
		refuses(t, api.ErrMany, limits.Config{Cores: -1}, l...)
		for _, wrong := range []script.Command{{Op: 12}, {Op: 1}, {Op: 1, On: strings.Repeat("x", mostBytes)}} {
			l[n/2] = wrong
			refuses(t, api.ErrMany, config(), l...)
		}
	}
	refuses(t, api.ErrMany, config(), slices.Repeat([]script.Command{runs}, 70000)...)
}

func TestP24_2PrintLong(t *testing.T) {
	room := mostBytes - len(head)
	exit := func(bytes int) script.Command {
		return script.Command{Op: 1, On: strings.Repeat("x", bytes-len("exit \n"))}
	}
	runs := script.Command{Op: 11}
	for _, l := range [][]script.Command{
		{exit(room)},
		{runs, exit(room - 5)},
		{exit(room - 5), runs},
		{exit(room / 2), runs, exit(room - room/2 - 5)},
	} {
		text, e := script.Print(config(), l...)
		if len(text) != mostBytes || e != api.OK {
			t.Errorf("there are printed %d bytes, %d", len(text), e)
		}
		checkPrint(t, config(), l...)
		more := slices.Clone(l)
		last := &more[slices.IndexFunc(more, func(c script.Command) bool { return c.Op == 1 })]
		last.On += "x"
		refuses(t, api.ErrLong, config(), more...)
		refuses(t, api.ErrLong, config(), append(more, runs)...)
		refuses(t, api.ErrLong, limits.Config{Cores: 10, Tasks: 2, Tick: 3, Slice: 4, Origin: 5}, l...)
		// What may not be is told ahead of that, wherever it stands.
		for _, wrong := range []script.Command{{Op: 12}, {Op: 1}, {Op: 11, On: "a"}, states(0)} {
			refuses(t, api.ErrForm, config(), append(slices.Clone(more), wrong)...)
			refuses(t, api.ErrForm, config(), append([]script.Command{wrong}, more...)...)
		}
		refuses(t, api.ErrForm, limits.Config{Cores: -1}, more...)
	}
	refuses(t, api.ErrLong, config(), exit(4*mostBytes))
}

func TestP24_2PrintManyStates(t *testing.T) {
	// A state more takes 10 bytes.
	just := (mostBytes - len(head) - len("tasks\n")) / 10
	prints(t, head+"tasks"+strings.Repeat(" lingering", just)+"\n", config(), states(slices.Repeat([]uint8{2}, just)...))
	for _, n := range []int{just + 1, just + 2, 10 * just, mostBytes - 1, mostBytes, mostBytes + 1} {
		l := slices.Repeat([]uint8{2}, n)
		refuses(t, api.ErrLong, config(), states(l...))
		l[n-1] = 4
		refuses(t, api.ErrForm, config(), states(l...))
	}
}

func TestP24_2PrintLeavesItsCommandsAlone(t *testing.T) {
	lines, l := ofEachOp()
	for i := range l {
		l[i].N, l[i].States = append(l[i].N, 77, 78)[:len(l[i].N)], append(l[i].States, 77, 78)[:len(l[i].States)]
	}
	l = append(l, script.Command{Op: 99})
	script.Print(config(), l[:12]...)
	script.Print(config(), l...)
	_, wanted := ofEachOp()
	if !slices.EqualFunc(l[:12], wanted, same) || l[12].Op != 99 {
		t.Errorf("what was handed in is %+v now", l)
	}
	for i, c := range l[:12] {
		n, s := len(c.N), len(c.States)
		if !slices.Equal(c.N[n:n+2], []uint64{77, 78}) || !slices.Equal(c.States[s:s+2], []uint8{77, 78}) {
			t.Errorf("what is beside %d is changed", i)
		}
	}
	prints(t, head+strings.Join(lines, "\n")+"\n", config(), l[:12]...)
}

func TestP24_3WhatIsPrintedIsParsedAsItWas(t *testing.T) {
	for seed := range 400 {
		next := chance(seed)
		c := configFrom(next)
		var l []script.Command
		for range next(60) {
			l = append(l, commandFrom(next))
		}
		if e := checkPrint(t, c, l...); e != api.OK {
			t.Fatalf("of %+v and %+v: %d", c, l, e)
		}
	}
}

// altered is a command that may be no more, in one thing or in two.
func altered(next func(n int) int, c script.Command) script.Command {
	for range 1 + next(2) {
		switch next(7) {
		case 0:
			c.Op = uint8(next(14))
		case 1:
			c.N = append(slices.Clone(c.N), someNumber(next))
		case 2:
			c.N = c.N[:len(c.N)/2]
		case 3:
			c.Label = one(next, "", "a", " ", "a b", "a\n", strings.Repeat("x", 16), strings.Repeat("x", 17))
		case 4:
			c.On = one(next, "", "a", "\n", "a b", " a", "a\nruns", strings.Repeat("x", 17))
		case 5:
			c.States = append(slices.Clone(c.States), uint8(next(6)))
		case 6:
			c.States = nil
		}
	}
	return c
}

func TestP24_3WhatWouldBeAnotherThingIsntPrinted(t *testing.T) {
	told := map[api.Errno]int{}
	for seed := range 4000 {
		next := chance(seed)
		c := configFrom(next)
		var l []script.Command
		for range 1 + next(3) {
			l = append(l, commandFrom(next))
		}
		at := next(len(l))
		l[at] = altered(next, l[at])
		if next(8) == 0 {
			c.Cores = one(next, -1, mostCount+1, math.MaxInt, math.MinInt)
		}
		told[checkPrint(t, c, l...)]++
	}
	if told[api.OK] < 200 || told[api.ErrForm] < 200 {
		t.Errorf("there was told %v", told)
	}
}

// What is parsed is printed, and that is parsed as the same, but for the lines' numbers.
func TestP24_3WhatIsParsedIsPrinted(t *testing.T) {
	for seed := range 200 {
		next := chance(5000 + seed)
		text := "# x\n  \n"
		for i, line := range strings.SplitAfter(printedOf(configFrom(next), []script.Command{commandFrom(next), commandFrom(next)}), "\n") {
			text += strings.Repeat("\n", next(3)) + strings.Repeat(" ", next(3)) + line
			if i > 0 && next(3) == 0 {
				text += "   # y\n"
			}
		}
		got := checkParse(t, text)
		if got.e != api.OK {
			t.Fatalf("of %q there is told %+v", text, got)
		}
		if e := checkPrint(t, got.config, got.l...); e != api.OK {
			t.Fatalf("of %+v: %d", got, e)
		}
	}
}
