package script_test

import (
	"fmt"
	"math"
	"slices"
	"strings"
	"testing"

	"turnstone/api"
	"turnstone/limits"
	"turnstone/script"
	"turnstone/table"
)

const head = "system 1 2 3 4 5\n"

// is: what is parsed is that, and the model says so, too.
func is(t *testing.T, text string, wanted parsed) {
	t.Helper()
	checkParse(t, text)
	if got := parse(text); !got.same(wanted) {
		t.Errorf("of %.200q there is told %+v, wanted %+v", text, got, wanted)
	}
}

// headed is what is parsed of a script of the first line above, and of some commands.
func headed(l ...script.Command) parsed {
	return parsed{config: limits.Config{Cores: 1, Tasks: 2, Tick: 3, Slice: 4, Origin: 5}, l: l}
}

// fails: beside the error there is the line's number, and nothing else.
func fails(t *testing.T, text string, line int, e api.Errno) {
	t.Helper()
	is(t, text, parsed{line: line, e: e})
}

// ofEachOp has a line of each Op that may be, in its place, and what it tells, from the second line on.
func ofEachOp() ([]string, []script.Command) {
	lines := []string{
		"spawn a 0 1 5", "exit b", "sleep c", "wake d", "weight e 6", "slice f 7", "migrate g 8", "tick 9",
		"task h", "tasks lingering sleeping runnable", "cores", "runs",
	}
	l := []script.Command{
		{Label: "a", N: []uint64{0, 1, 5}},
		{On: "b"}, {On: "c"}, {On: "d"},
		{On: "e", N: []uint64{6}}, {On: "f", N: []uint64{7}}, {On: "g", N: []uint64{8}},
		{N: []uint64{9}},
		{On: "h"},
		{States: []uint8{table.Lingering, table.Sleeping, table.Runnable}},
		{}, {},
	}
	for op := range l {
		l[op].Line, l[op].Op = op+2, uint8(op)
	}
	return lines, l
}

func TestP24_1ParseEachOp(t *testing.T) {
	lines, l := ofEachOp()
	is(t, head+strings.Join(lines, "\n"), headed(l...))
	is(t, head+strings.Join(lines, "\n")+"\n", headed(l...))
	for op, c := range l {
		c.Line = 2
		is(t, head+lines[op], headed(c))
		is(t, head+lines[op]+"\n", headed(c))
		is(t, head+"\n"+lines[op]+"\n"+lines[op], headed(numberedFrom(3, c, c)...))
	}
}

// numberedFrom are the same commands, one a line, from a line on.
func numberedFrom(line int, l ...script.Command) []script.Command {
	for i := range l {
		l[i].Line = line + i
	}
	return l
}

func TestP24_1ParseTheExample(t *testing.T) {
	is(t, head+"spawn a 0 1 5", headed(script.Command{Line: 2, Label: "a", N: []uint64{0, 1, 5}}))
	is(t, "system 1 2 9 9 0\nspawn a 0 1 5\ntick 7\nruns\n", parsed{
		config: limits.Config{Cores: 1, Tasks: 2, Tick: 9, Slice: 9},
		l:      []script.Command{{Line: 2, Label: "a", N: []uint64{0, 1, 5}}, {Line: 3, Op: 7, N: []uint64{7}}, {Line: 4, Op: 11}},
	})
}

func TestP24_1ParseTasks(t *testing.T) {
	for _, c := range []struct {
		line   string
		states []uint8
	}{
		{"tasks", nil},
		{"tasks runnable", []uint8{1}},
		{"tasks lingering", []uint8{2}},
		{"tasks sleeping", []uint8{3}},
		{"tasks sleeping runnable", []uint8{3, 1}},
		{"tasks runnable runnable lingering runnable", []uint8{1, 1, 2, 1}},
	} {
		is(t, head+c.line, headed(script.Command{Line: 2, Op: 9, States: c.states}))
	}
	is(t, head+"tasks"+strings.Repeat(" lingering", 6000), headed(script.Command{Line: 2, Op: 9, States: slices.Repeat([]uint8{2}, 6000)}))
	for _, word := range []string{"free", "other", "Runnable", "runnables", "runnabl", "sleep", "1", "0", "#", "runnable,sleeping", "\t", "lingering\r", "\x00"} {
		fails(t, head+"tasks "+word, 2, api.ErrForm)
		fails(t, head+"tasks runnable "+word+" sleeping", 2, api.ErrForm)
		fails(t, head+"tasks sleeping lingering "+word, 2, api.ErrForm)
	}
}

func TestP24_1ParseTheConfiguration(t *testing.T) {
	for _, c := range []struct {
		line  string
		wants limits.Config
	}{
		// Whether it may be or not.
		{"system 0 0 0 0 0", limits.Config{}},
		{"system 1 2 3 4 5", limits.Config{Cores: 1, Tasks: 2, Tick: 3, Slice: 4, Origin: 5}},
		{"system 99 98 0 0 7", limits.Config{Cores: 99, Tasks: 98, Origin: 7}},
		// Cores and Tasks that are greater than that are told as that.
		{"system 1073741823 1073741824 1 1 1", limits.Config{Cores: 1<<30 - 1, Tasks: 1 << 30, Tick: 1, Slice: 1, Origin: 1}},
		{"system 1073741824 1073741823 1 1 1", limits.Config{Cores: 1 << 30, Tasks: 1<<30 - 1, Tick: 1, Slice: 1, Origin: 1}},
		{"system 1073741825 1073741826 1 1 1", limits.Config{Cores: 1 << 30, Tasks: 1 << 30, Tick: 1, Slice: 1, Origin: 1}},
		{"system 4294967297 9223372036854775809 1 1 1", limits.Config{Cores: 1 << 30, Tasks: 1 << 30, Tick: 1, Slice: 1, Origin: 1}},
		{"system 18446744073709551615 18446744073709551615 18446744073709551615 18446744073709551614 18446744073709551613",
			limits.Config{Cores: 1 << 30, Tasks: 1 << 30, Tick: math.MaxUint64, Slice: math.MaxUint64 - 1, Origin: math.MaxUint64 - 2}},
		{"system 8 32 1073741825 4294967296 9223372036854775808", limits.Config{Cores: 8, Tasks: 32, Tick: 1<<30 + 1, Slice: 1 << 32, Origin: 1 << 63}},
	} {
		is(t, c.line, parsed{config: c.wants})
		is(t, c.line+"\nruns", parsed{config: c.wants, l: []script.Command{{Line: 2, Op: 11}}})
	}
}

func TestP24_1ParseBlanks(t *testing.T) {
	spawn := script.Command{Line: 2, Label: "a", N: []uint64{0, 1, 5}}
	for _, text := range []string{
		" system 1 2 3 4 5\n spawn a 0 1 5",
		"system 1 2 3 4 5 \nspawn a 0 1 5 ",
		"   system  1   2 3    4 5     \n  spawn    a  0 1   5  \n   \n \n\n",
	} {
		is(t, text, headed(spawn))
	}
	// Whatever else is white is a byte of a word.
	for _, white := range []string{"\t", "\r", "\v", "\f", "\u00a0", "\u2003", "\u3000", "\ufeff", "\u0085", "\x00", "\x1c", "\xa0", "\x85"} {
		fails(t, strings.Replace(head, " ", white, 1), 1, api.ErrForm)
		fails(t, head+"runs"+white, 2, api.ErrForm)
		fails(t, head+white+"runs", 2, api.ErrForm)
		fails(t, head+white, 2, api.ErrForm)
		fails(t, head+white+"#", 2, api.ErrForm)
		fails(t, head+"tick 5"+white, 2, api.ErrForm)
		fails(t, head+"runs"+white+"runs", 2, api.ErrForm)
		is(t, head+"exit a"+white+"b", headed(script.Command{Line: 2, Op: 1, On: "a" + white + "b"}))
	}
}

func TestP24_1ParseWordsHaveAnyBytes(t *testing.T) {
	for n := range 256 {
		if n == ' ' || n == '\n' {
			continue
		}
		word := string([]byte{byte(n)})
		for _, w := range []string{word, word + word, "a" + word, word + "b", word + "\xff"} {
			is(t, head+"exit "+w, headed(script.Command{Line: 2, Op: 1, On: w}))
			is(t, head+"weight "+w+" 7", headed(script.Command{Line: 2, Op: 4, On: w, N: []uint64{7}}))
			is(t, head+"spawn "+w+" 1 2 3", headed(script.Command{Line: 2, Label: w, N: []uint64{1, 2, 3}}))
			if n != '#' {
				fails(t, head+w, 2, api.ErrForm)
			}
		}
		if n < '0' || n > '9' {
			for _, w := range []string{word, "1" + word, word + "1", "12" + word + "3"} {
				fails(t, head+"tick "+w, 2, api.ErrForm)
			}
		}
	}
}

func TestP24_1ParseLinesThatDontCount(t *testing.T) {
	run := script.Command{Line: 5, Op: 11}
	for _, text := range []string{
		"#\n# system 9 9\nsystem 1 2 3 4 5\n#runs x\nruns\n# x",
		"\n\n" + head + "\nruns",
		"  \n   # x\n" + head + "   #\nruns\n    ",
		"#system 7 7 7 7 7\n######\n" + head + "#" + strings.Repeat("x", 50000) + "\nruns",
		"# \xff\x00\n#\r\n" + head + " # tick\t\nruns\n\n\n\n#",
	} {
		is(t, text, headed(run))
	}
	// Of a number a line is one, whether it counts or not.
	for n := range 40 {
		ahead := strings.Repeat("\n", n/2) + strings.Repeat("# x\n", n-n/2)
		fails(t, ahead+"system", n+1, api.ErrForm)
		fails(t, ahead+head+ahead+"tick x", 2*n+2, api.ErrForm)
		is(t, ahead+head+ahead+"runs", headed(script.Command{Line: 2*n + 2, Op: 11}))
	}
	// Behind the first word # is a word as any other one.
	fails(t, head+"runs # x", 2, api.ErrForm)
	is(t, head+"exit #", headed(script.Command{Line: 2, Op: 1, On: "#"}))
	is(t, head+"exit #1", headed(script.Command{Line: 2, Op: 1, On: "#1"}))
}

func TestP24_1ParseShort(t *testing.T) {
	for _, text := range []string{"", " ", "\n", "\n\n\n", "   \n  ", "#", "# system 1 2 3 4 5", "#system 1 2 3 4 5\n\n #", strings.Repeat("\n", mostBytes), strings.Repeat(" ", mostBytes), strings.Repeat("#", mostBytes)} {
		fails(t, text, 0, api.ErrShort)
	}
}

func TestP24_1ParseLong(t *testing.T) {
	for _, text := range []string{"", head, head + "runs\n", head + "#", "#", head + "runs\n#"} {
		for _, c := range []string{"\n", " ", "x", "#"} {
			just := text + strings.Repeat(c, mostBytes-len(text))
			checkParse(t, just)
			if got := parse(just); got.e == api.ErrLong {
				t.Errorf("of %d bytes there is told %+v", len(just), got)
			}
			// Whatever else is wrong.
			fails(t, just+c, 0, api.ErrLong)
			fails(t, just+strings.Repeat(c, 4*mostBytes), 0, api.ErrLong)
		}
	}
	name := strings.Repeat("x", mostBytes-len(head)-len("exit "))
	is(t, head+"exit "+name, headed(script.Command{Line: 2, Op: 1, On: name}))
}

func TestP24_1ParseMany(t *testing.T) {
	for n := mostCommands - 1; n <= mostCommands+3; n++ {
		text := head + strings.Repeat("runs\n", n)
		if n <= mostCommands {
			is(t, text, headed(numberedFrom(2, slices.Repeat([]script.Command{{Op: 11}}, n)...)...))
		} else {
			fails(t, text, mostCommands+2, api.ErrMany)
		}
	}
	all := head + "#\n" + strings.Repeat("tick 1\n", mostCommands)
	for _, c := range []struct {
		last string
		line int
		e    api.Errno
	}{
		{"", 0, api.OK},
		{"\n\n# x\n   ", 0, api.OK},
		{"\n# x\nruns", mostCommands + 5, api.ErrMany},
		// That it is one too many is told first.
		{"x", mostCommands + 3, api.ErrMany},
		{"tick", mostCommands + 3, api.ErrMany},
		{"tick x", mostCommands + 3, api.ErrMany},
		{"tick 18446744073709551616", mostCommands + 3, api.ErrMany},
		{"spawn " + strings.Repeat("x", 17) + " 1 1 1", mostCommands + 3, api.ErrMany},
		{"system 1 2 3 4 5", mostCommands + 3, api.ErrMany},
	} {
		checkParse(t, all+c.last)
		if got := parse(all + c.last); got.line != c.line || got.e != c.e || (len(got.l) == mostCommands) != (c.e == api.OK) {
			t.Errorf("behind all there is %q: %d, %d, and %d commands", c.last, got.line, got.e, len(got.l))
		}
	}
	// What is wrong ahead of that is told instead.
	fails(t, strings.Replace(all, "tick 1\n", "tick\n", 1)+"runs", 3, api.ErrForm)
	fails(t, strings.TrimSuffix(all, "1\n")+"x\nruns", mostCommands+2, api.ErrForm)
}

func TestP24_1ParseFirstWords(t *testing.T) {
	lines, _ := ofEachOp()
	for _, line := range append(lines, strings.TrimSuffix(head, "\n")) {
		word, others, _ := strings.Cut(line, " ")
		for _, w := range []string{word + "s", word[:len(word)-1], strings.ToUpper(word), "x" + word, word + "\t", word + "#", strings.ToUpper(word[:1]) + word[1:]} {
			// There is a task, and there are tasks.
			if w == "tasks" || w == "task" || w == "system" {
				continue
			}
			fails(t, head+w+" "+others, 2, api.ErrForm)
			fails(t, w+" "+others, 1, api.ErrForm)
		}
	}
	for _, line := range lines {
		// The first line that counts is another one, however it may be.
		fails(t, line, 1, api.ErrForm)
		fails(t, "\n# x\n"+line+"\n"+head, 3, api.ErrForm)
	}
	fails(t, head+head, 2, api.ErrForm)
	fails(t, head+"runs\n\n"+head, 4, api.ErrForm)
	fails(t, "5 1 2 3 4 system", 1, api.ErrForm)
	fails(t, head+"spawna 0 1 5", 2, api.ErrForm)
	fails(t, head+"tick7", 2, api.ErrForm)
}

func TestP24_1ParseNumberOfWords(t *testing.T) {
	lines, l := ofEachOp()
	for op, line := range lines {
		words := strings.Fields(line)
		for n := range len(words) {
			if op == 9 || n+1 == len(words) {
				continue
			}
			fails(t, head+strings.Join(words[:n+1], " "), 2, api.ErrForm)
			fails(t, head+strings.Join(words[:n+1], " ")+"    ", 2, api.ErrForm)
		}
		for _, more := range []string{" 1", " x", " #", " # x", " runnable", " 1 1 1 1 1"} {
			if op == 9 && more == " runnable" {
				c := l[op]
				c.Line, c.States = 2, []uint8{2, 3, 1, 1}
				is(t, head+line+more, headed(c))
				continue
			}
			fails(t, head+line+more, 2, api.ErrForm)
		}
	}
	for _, line := range []string{"system", "system 1", "system 1 2", "system 1 2 3", "system 1 2 3 4", "system 1 2 3 4 5 6", "system 1 2 3 4 5 #", "system 1 2 3 4 5 6 7 8 9 10"} {
		fails(t, line, 1, api.ErrForm)
	}
}

// withNumbers are all lines that have a number, of which the word ? is one.
func withNumbers() []string {
	return []string{
		"spawn a ? 1 5", "spawn a 0 ? 5", "spawn a 0 1 ?", "weight a ?", "slice a ?", "migrate a ?", "tick ?",
	}
}

func TestP24_1ParseNumbers(t *testing.T) {
	for _, c := range []struct {
		word string
		n    uint64
	}{
		{"0", 0}, {"1", 1}, {"9", 9}, {"10", 10}, {"1234567890", 1234567890}, {"1073741825", 1<<30 + 1}, {"9223372036854775808", 1 << 63},
		{"10000000000000000000", 1e19}, {"18446744073709551609", math.MaxUint64 - 6}, {"18446744073709551614", math.MaxUint64 - 1}, {"18446744073709551615", math.MaxUint64},
	} {
		for _, line := range withNumbers() {
			got := checkParse(t, head+strings.Replace(line, "?", c.word, 1))
			if got.e != api.OK || !slices.Contains(got.l[0].N, c.n) {
				t.Errorf("%q with %q is told as %+v", line, c.word, got)
			}
		}
	}
}

func TestP24_1ParseWrongNumbers(t *testing.T) {
	lines := []string{"system ? 1 1 1 1", "system 1 ? 1 1 1", "system 1 1 ? 1 1", "system 1 1 1 ? 1", "system 1 1 1 1 ?"}
	for _, line := range withNumbers() {
		lines = append(lines, head+line)
	}
	for _, line := range lines {
		for _, word := range []string{
			"00", "01", "000", "-0", "-1", "+1", "+0", "1_000", "0x1", "1e3", "1.0", "1,0", "x", "1x", "x1", "0b1", "0o7", "''", "١", "１", "1\x00", "\x001", "#1", "1#",
			"018446744073709551615", "018446744073709551616", "18446744073709551616x", "x18446744073709551616", "99999999999999999999999999-", "-18446744073709551616",
			"/", ":", "1/", "1:", "0" + strings.Repeat("0", 30), "1\t", "\r",
		} {
			fails(t, strings.Replace(line, "?", word, 1), 1+strings.Count(line, "\n"), api.ErrForm)
		}
		for _, word := range []string{
			"18446744073709551616", "18446744073709551617", "18446744073709551620", "18446744073709551625", "20000000000000000000", "99999999999999999999", "100000000000000000000",
			"36893488147419103232", "184467440737095516150", "1" + strings.Repeat("0", 38), "1" + strings.Repeat("0", 5000), strings.Repeat("9", 60000),
		} {
			fails(t, strings.Replace(line, "?", word, 1), 1+strings.Count(line, "\n"), api.ErrRange)
		}
	}
}

func TestP24_1ParseLabels(t *testing.T) {
	for n := 1; n <= 40; n++ {
		word := strings.Repeat("x", n)
		is(t, head+"exit "+word, headed(script.Command{Line: 2, Op: 1, On: word}))
		if n <= mostLabel {
			is(t, head+"spawn "+word+" 0 1 5", headed(script.Command{Line: 2, Label: word, N: []uint64{0, 1, 5}}))
		} else {
			fails(t, head+"spawn "+word+" 0 1 5", 2, api.ErrLong)
		}
	}
	// Bytes are counted, not letters.
	is(t, head+"spawn "+strings.Repeat("é", 8)+" 0 1 5", headed(script.Command{Line: 2, Label: strings.Repeat("é", 8), N: []uint64{0, 1, 5}}))
	fails(t, head+"spawn "+strings.Repeat("é", 9)+" 0 1 5", 2, api.ErrLong)
	fails(t, head+"spawn "+strings.Repeat("\xff", 17)+" 0 1 5", 2, api.ErrLong)
}

func TestP24_1ParseTheFirstError(t *testing.T) {
	long, great := strings.Repeat("x", 17), "18446744073709551616"
	for _, c := range []struct {
		line string
		e    api.Errno
	}{
		// How many words there are is told ahead of what they are.
		{"spawn " + long + " 0 1", api.ErrForm},
		{"spawn " + long + " " + great + " 1 5 6", api.ErrForm},
		{"tick " + great + " " + great, api.ErrForm},
		{"weight a " + great + " x", api.ErrForm},
		// Then they are looked at in order.
		{"spawn " + long + " x 1 5", api.ErrLong},
		{"spawn " + long + " " + great + " 01 5", api.ErrLong},
		{"spawn a " + great + " x 5", api.ErrRange},
		{"spawn a x " + great + " 5", api.ErrForm},
		{"spawn a 1 " + great + " x", api.ErrRange},
		{"spawn a 1 01 " + great, api.ErrForm},
		{"spawn a 0" + great + " 1 1", api.ErrForm},
	} {
		fails(t, head+c.line, 2, c.e)
		fails(t, head+"\nruns\n"+c.line+"\nx\n", 4, c.e)
	}
	fails(t, "system 1 "+great+" x 1 1", 1, api.ErrRange)
	fails(t, "system 1 x "+great+" 1 1", 1, api.ErrForm)
	fails(t, "system "+great+" 1 1 1", 1, api.ErrForm)
	// The first line that is wrong is told, however wrong others are.
	fails(t, head+"tick "+great+"\nx\ntick x", 2, api.ErrRange)
	fails(t, "system x 1 1 1 1\ntick "+great, 1, api.ErrForm)
	fails(t, "system 1 1 1 1 "+great+"\nx", 1, api.ErrRange)
	fails(t, "runs\nsystem 1 1 1 1 "+great, 1, api.ErrForm)
}

func TestP24_1ParseIsNewMemory(t *testing.T) {
	lines, wanted := ofEachOp()
	text := head + strings.Join(lines, "\n")
	first, other := parse(text), parse(text)
	for i := range first.l {
		// Into the spare room too, where there is some.
		clear(append(first.l[i].N, 7, 7, 7))
		clear(append(first.l[i].States, 7, 7, 7))
		first.l[i].N, first.l[i].States = nil, nil
		for j := i + 1; j < len(first.l); j++ {
			if !same(first.l[j], wanted[j]) {
				t.Fatalf("the command %d shares something with %d: it is %+v now", j, i, first.l[j])
			}
		}
	}
	clear(first.l)
	if !other.same(headed(wanted...)) || !parse(text).same(headed(wanted...)) {
		t.Errorf("another answer is %+v now", other)
	}
}

// alteredText has some bytes more, or less, or others, at any place.
func alteredText(next func(n int) int, text []byte) []byte {
	at := next(len(text) + 1)
	some := one(next, " ", "\n", "#", "0", "1", "9", "a", "\t", "\x00", "\xff", "\r", " # ", "\n#\n", "  ", "18446744073709551616", "runnable ", "\nruns\n", "\ntick 7 ", "é", "xxxxxxxxxxxxxxxx")
	switch next(3) {
	case 0:
		return slices.Insert(text, at, []byte(some)...)
	case 1:
		return slices.Delete(text, at, min(at+1+next(3), len(text)))
	}
	return slices.Replace(text, at, min(at+1, len(text)), some[0])
}

func TestP24_1ParseWhateverTheBytes(t *testing.T) {
	told := map[api.Errno]int{}
	for seed := range 300 {
		next := chance(seed)
		var l []script.Command
		for range next(20) {
			l = append(l, commandFrom(next))
		}
		was := []byte(printedOf(configFrom(next), l))
		for range 30 {
			text := slices.Clone(was)
			for range 1 + next(3) {
				text = alteredText(next, text)
			}
			told[checkParse(t, string(text)).e]++
		}
	}
	for _, e := range []api.Errno{api.OK, api.ErrForm, api.ErrRange, api.ErrLong} {
		if told[e] < 10 {
			t.Errorf("there was told %d only %d times", e, told[e])
		}
	}
	// Bytes without any pattern.
	next := chance(999)
	for range 3000 {
		text := make([]byte, next(60))
		for i := range text {
			text[i] = one(next, byte(next(256)), ' ', '\n', '#', '1')
		}
		checkParse(t, string(text))
		checkParse(t, head+string(text))
	}
}

func TestP24_1ParseHangsOnItsTextAlone(t *testing.T) {
	text := head + "spawn a 0 1 5\ntasks sleeping"
	wanted := parse(text)
	for n := range 50 {
		parse(fmt.Sprintf("system %d 1 1 1 1\ntick %d", n, n))
		parse("x")
		if got := parse(text); !got.same(wanted) {
			t.Fatalf("there is told %+v, wanted %+v", got, wanted)
		}
	}
}
