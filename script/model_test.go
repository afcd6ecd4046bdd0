package script_test

import (
	"fmt"
	"math/big"
	"regexp"
	"slices"
	"strings"
	"testing"

	"turnstone/api"
	"turnstone/limits"
	"turnstone/script"
)

const (
	mostBytes    = 65536
	mostCommands = 1000
	mostLabel    = 16
	mostCount    = 1 << 30
)

// opLines are the lines of the document's table, each in the place of its Op.
func opLines() []string {
	return []string{
		"spawn LABEL N N N", "exit H", "sleep H", "wake H", "weight H N", "slice H N", "migrate H N", "tick N",
		"task H", "tasks STATE ..", "cores", "runs",
	}
}

var (
	blanks = regexp.MustCompile("[^ ]+")
	digits = regexp.MustCompile(`^(0|[1-9][0-9]*)$`)
)

// numberOf reads a number by numbers without bounds.
func numberOf(word string) (uint64, api.Errno) {
	if !digits.MatchString(word) {
		return 0, api.ErrForm
	}
	n, _ := new(big.Int).SetString(word, 10)
	if !n.IsUint64() {
		return 0, api.ErrRange
	}
	return n.Uint64(), api.OK
}

// lineOf reads a line's words, as a line of the table, or the first line of a script, tells them.
func lineOf(told string, words []string) (script.Command, api.Errno) {
	var c script.Command
	wanted := strings.Fields(told)[1:]
	if slices.Contains(wanted, "..") {
		wanted = slices.Repeat([]string{"STATE"}, len(words)-1)
	}
	if len(words)-1 != len(wanted) {
		return c, api.ErrForm
	}
	for i, kind := range wanted {
		word := words[i+1]
		switch kind {
		case "LABEL":
			if len(word) > mostLabel {
				return c, api.ErrLong
			}
			c.Label = word
		case "H":
			c.On = word
		case "N":
			n, e := numberOf(word)
			if e != api.OK {
				return c, e
			}
			c.N = append(c.N, n)
		case "STATE":
			state := slices.Index([]string{"", "runnable", "lingering", "sleeping"}, word)
			if state < 0 {
				return c, api.ErrForm
			}
			c.States = append(c.States, uint8(state))
		}
	}
	return c, api.OK
}

// A parsed is all that Parse answers.
type parsed struct {
	config limits.Config
	l      []script.Command
	line   int
	e      api.Errno
}

func parse(text string) parsed {
	var p parsed
	p.config, p.l, p.line, p.e = script.Parse(text)
	return p
}

func (p parsed) same(q parsed) bool {
	return p.config == q.config && p.line == q.line && p.e == q.e && slices.EqualFunc(p.l, q.l, same)
}

// same: are both commands the same, also where one's list is nil and the other one's has no elements?
func same(a, b script.Command) bool {
	return a.Line == b.Line && a.Op == b.Op && a.Label == b.Label && a.On == b.On && slices.Equal(a.N, b.N) && slices.Equal(a.States, b.States)
}

// parsedOf is what the document's words say of a script, whatever its length.
func parsedOf(text string) parsed {
	var p parsed
	counted := 0
	for i, line := range strings.Split(text, "\n") {
		words := blanks.FindAllString(line, -1)
		if len(words) == 0 || words[0][0] == '#' {
			continue
		}
		var e api.Errno
		switch counted++; {
		case counted == 1:
			p.config, e = configOf(words)
		case counted == mostCommands+2:
			e = api.ErrMany
		default:
			var c script.Command
			if c, e = commandOf(words); e == api.OK {
				c.Line = i + 1
				p.l = append(p.l, c)
			}
		}
		if e != api.OK {
			return parsed{line: i + 1, e: e}
		}
	}
	if counted == 0 {
		return parsed{e: api.ErrShort}
	}
	return p
}

func configOf(words []string) (limits.Config, api.Errno) {
	if words[0] != "system" {
		return limits.Config{}, api.ErrForm
	}
	c, e := lineOf("system N N N N N", words)
	if e != api.OK {
		return limits.Config{}, e
	}
	cores, tasks := min(c.N[0], mostCount), min(c.N[1], mostCount)
	return limits.Config{Cores: int(cores), Tasks: int(tasks), Tick: c.N[2], Slice: c.N[3], Origin: c.N[4]}, api.OK
}

func commandOf(words []string) (script.Command, api.Errno) {
	for op, told := range opLines() {
		if strings.Fields(told)[0] == words[0] {
			c, e := lineOf(told, words)
			c.Op = uint8(op)
			return c, e
		}
	}
	return script.Command{}, api.ErrForm
}

// checkParse holds Parse against the model.
func checkParse(t *testing.T, text string) parsed {
	t.Helper()
	got, wanted := parse(text), parsed{e: api.ErrLong}
	if len(text) <= mostBytes {
		wanted = parsedOf(text)
	}
	if !got.same(wanted) {
		t.Fatalf("of %.2000q there is told %+v, wanted %+v", text, got, wanted)
	}
	return got
}

// printedOf lays the words out, whether they may be or not.
func printedOf(c limits.Config, l []script.Command) string {
	var text strings.Builder
	fmt.Fprintf(&text, "system %d %d %d %d %d\n", c.Cores, c.Tasks, c.Tick, c.Slice, c.Origin)
	for _, x := range l {
		words := []string{"?"}
		if int(x.Op) < len(opLines()) {
			words[0] = strings.Fields(opLines()[x.Op])[0]
		}
		for _, word := range []string{x.Label, x.On} {
			if word != "" {
				words = append(words, word)
			}
		}
		for _, n := range x.N {
			words = append(words, fmt.Sprint(n))
		}
		for _, s := range x.States {
			word := "?"
			if s >= 1 && s <= 3 {
				word = []string{"runnable", "lingering", "sleeping"}[s-1]
			}
			words = append(words, word)
		}
		text.WriteString(strings.Join(words, " ") + "\n")
	}
	return text.String()
}

// checkPrint holds Print against what follows: what is printed is parsed as it was, and what would be parsed as another thing isn't printed.
func checkPrint(t *testing.T, c limits.Config, l ...script.Command) api.Errno {
	t.Helper()
	text := printedOf(c, l)
	wanted := api.OK
	switch was := parsedOf(text); {
	case len(l) > mostCommands:
		wanted = api.ErrMany
	case !was.same(parsed{config: c, l: numbered(l)}):
		wanted = api.ErrForm
	case len(text) > mostBytes:
		wanted = api.ErrLong
	}
	if wanted != api.OK {
		text = ""
	}
	got, e := script.Print(c, l...)
	if got != text || e != wanted {
		t.Fatalf("of %+v and %+v there is printed %.2000q, %d, wanted %.2000q, %d", c, l, got, e, text, wanted)
	}
	if e == api.OK && !parse(got).same(parsed{config: c, l: numbered(l)}) {
		t.Fatalf("%+v and %+v are parsed as %+v", c, l, parse(got))
	}
	return e
}

// numbered are the same commands, as they stand in what is printed.
func numbered(l []script.Command) []script.Command {
	l = slices.Clone(l)
	for i := range l {
		l[i].Line = i + 2
	}
	return l
}

// chance: numbers without a pattern, but always the same.
func chance(seed int) func(n int) int {
	x := uint64(seed)*2 + 88172645463325253
	return func(n int) int {
		x ^= x << 13
		x ^= x >> 7
		x ^= x << 17
		return int(x >> 8 % uint64(n))
	}
}

// one of some.
func one[T any](next func(n int) int, l ...T) T { return l[next(len(l))] }

// wordOf has any bytes but those two that no word has.
func wordOf(next func(n int) int, most int) string {
	word := make([]byte, 1+next(most))
	for i := range word {
		for word[i] = ' '; word[i] == ' ' || word[i] == '\n'; {
			word[i] = one(next, byte(next(256)), byte('a'+next(26)), byte('0'+next(10)), '#', '\t', '\r', 0)
		}
	}
	return string(word)
}

func someNumber(next func(n int) int) uint64 {
	return one(next, 0, 1, uint64(next(100)), 1<<30, 1<<63, 1<<64-1, uint64(next(1<<40))<<uint(next(40)))
}

// commandFrom is one that may be.
func commandFrom(next func(n int) int) script.Command {
	c := script.Command{Line: next(9), Op: uint8(next(12))}
	for _, kind := range strings.Fields(opLines()[c.Op])[1:] {
		switch kind {
		case "LABEL":
			c.Label = wordOf(next, mostLabel)
		case "H":
			c.On = wordOf(next, 30)
		case "N":
			c.N = append(c.N, someNumber(next))
		case "STATE":
			for range next(6) {
				c.States = append(c.States, uint8(1+next(3)))
			}
		}
	}
	return c
}

func configFrom(next func(n int) int) limits.Config {
	count := func() int { return one(next, 0, 1, next(40), mostCount-1, mostCount) }
	return limits.Config{Cores: count(), Tasks: count(), Tick: someNumber(next), Slice: someNumber(next), Origin: someNumber(next)}
}
