package script

import (
	"strconv"
	"strings"

	"turnstone/limits"
	"turnstone/table"
)

// What a word behind the first one is.
const (
	label  = "L"
	name   = "H"
	number = "N"
	state  = "S"
)

// shape is of which words a line is: its first one, and what the others are. Of states there may be any number.
type shape struct{ word, others string }

// shapes: of each Op, in its place.
var shapes = [...]shape{
	{"spawn", "LNNN"},
	{"exit", "H"},
	{"sleep", "H"},
	{"wake", "H"},
	{"weight", "HN"},
	{"slice", "HN"},
	{"migrate", "HN"},
	{"tick", "N"},
	{"task", "H"},
	{"tasks", "S"},
	{"cores", ""},
	{"runs", ""},
}

// system: of the first line that counts.
var system = shape{"system", "NNNNN"}

// stateWords: of each state, in its place; of that of nobody there is none.
var stateWords = [...]string{table.Runnable: "runnable", table.Lingering: "lingering", table.Sleeping: "sleeping"}

func wrongState(s uint8) bool { return s < table.Runnable || s > table.Sleeping }

// tells: are there words of that kind?
func (s shape) tells(kind string) bool { return strings.Contains(s.others, kind) }

// kinds: what so many words behind the first one are, or, where there may not be so many, what they should be.
func (s shape) kinds(n int) string {
	if s.tells(state) {
		return strings.Repeat(state, n)
	}
	return s.others
}

// rightWord: is it a word where there is one of that kind, and none where there isn't?
func (s shape) rightWord(kind, word string) bool {
	if !s.tells(kind) {
		return word == ""
	}
	return word != "" && !strings.ContainsAny(word, " \n")
}

// line is that of a command that has just what the shape tells.
func (s shape) line(c Command) string {
	words := []string{s.word}
	if s.tells(label) {
		words = append(words, c.Label)
	}
	if s.tells(name) {
		words = append(words, c.On)
	}
	for _, n := range c.N {
		words = append(words, strconv.FormatUint(n, 10))
	}
	for _, x := range c.States {
		words = append(words, stateWords[x])
	}
	return strings.Join(words, " ") + "\n"
}

func configLine(c limits.Config) string {
	return system.line(Command{N: []uint64{uint64(c.Cores), uint64(c.Tasks), c.Tick, c.Slice, c.Origin}})
}
