package script

import (
	"strconv"
	"strings"

	"turnstone/api"
	"turnstone/limits"
)

// line is one that counts: its number, and its words, of which there is one or more.
type line struct {
	number int
	words  []string
}

// counting: all lines that count.
func counting(text string) []line {
	var l []line
	for i, x := range strings.Split(text, "\n") {
		// Whatever else is white is a byte of a word, so this can't be done by strings.Fields.
		words := strings.FieldsFunc(x, func(r rune) bool { return r == ' ' })
		if len(words) > 0 && !strings.HasPrefix(words[0], "#") {
			l = append(l, line{i + 1, words})
		}
	}
	return l
}

// config: what the first line tells.
func (x line) config() (limits.Config, api.Errno) {
	if x.words[0] != system.word {
		return limits.Config{}, api.ErrForm
	}
	c, e := x.read(system)
	if e != api.OK {
		return limits.Config{}, e
	}
	return limits.Config{Cores: count(c.N[0]), Tasks: count(c.N[1]), Tick: c.N[2], Slice: c.N[3], Origin: c.N[4]}, api.OK
}

// count is a number of cores, or of tasks, as it is told.
func count(n uint64) int { return int(min(n, mostCount)) }

// command: what another line tells.
func (x line) command() (Command, api.Errno) {
	for op, s := range shapes {
		if x.words[0] != s.word {
			continue
		}
		c, e := x.read(s)
		if e != api.OK {
			return Command{}, e
		}
		c.Line, c.Op = x.number, uint8(op)
		return c, api.OK
	}
	return Command{}, api.ErrForm
}

// read: what the words behind the first one tell, as a shape has them.
func (x line) read(s shape) (Command, api.Errno) {
	words := x.words[1:]
	kinds := s.kinds(len(words))
	if len(kinds) != len(words) {
		return Command{}, api.ErrForm
	}
	var c Command
	for i, word := range words {
		if e := c.take(kinds[i:i+1], word); e != api.OK {
			return Command{}, e
		}
	}
	return c, api.OK
}

// take: a word of that kind is the next one that is told.
func (c *Command) take(kind, word string) api.Errno {
	switch kind {
	case label:
		if len(word) > mostLabel {
			return api.ErrLong
		}
		c.Label = word
	case name:
		c.On = word
	case number:
		n, e := numberOf(word)
		if e != api.OK {
			return e
		}
		c.N = append(c.N, n)
	case state:
		s, ok := stateOf(word)
		if !ok {
			return api.ErrForm
		}
		c.States = append(c.States, s)
	}
	return api.OK
}

// numberOf: the number that a word is.
func numberOf(word string) (uint64, api.Errno) {
	if word[0] == '0' && word != "0" {
		return 0, api.ErrForm
	}
	for i := range len(word) {
		if word[i] < '0' || word[i] > '9' {
			return 0, api.ErrForm
		}
	}
	// Of digits alone it is too great, or it is a number.
	n, err := strconv.ParseUint(word, 10, 64)
	if err != nil {
		return 0, api.ErrRange
	}
	return n, api.OK
}

// stateOf: the state that a word is.
func stateOf(word string) (uint8, bool) {
	for s, x := range stateWords {
		if x == word {
			return uint8(s), true
		}
	}
	return 0, false
}
