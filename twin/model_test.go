package twin_test

import (
	"fmt"
	"math"
	"strings"
	"testing"

	"turnstone/api"
	"turnstone/machine"
	"turnstone/twin"
)

const (
	mostBytes = 65536
	mostCount = 1 << 30
)

// origins: wherever times begin, all that is told is the same; what lies near most of these goes round.
func origins() []uint64 {
	return []uint64{0, math.MaxUint64, 1 << 63, 88172645463325252, 1, 1<<63 - 1, 1 << 62, math.MaxUint64 - 1<<40}
}

// lineOf are so many words in one line, with one blank between.
func lineOf(words []string) string { return strings.Join(words, " ") + "\n" }

// wordsOf are the words of each line that counts.
func wordsOf(text string) [][]string {
	var l [][]string
	for _, line := range strings.Split(text, "\n") {
		words := strings.FieldsFunc(line, func(r rune) bool { return r == ' ' })
		if len(words) > 0 && words[0][0] != '#' {
			l = append(l, words)
		}
	}
	return l
}

// fromOf is what the document's words say of a script that may be, by its words alone.
func fromOf(text string, origin uint64) (string, api.Errno) {
	l := wordsOf(text)
	first := l[0]
	for i, word := range first[:3] {
		var n uint64
		if fmt.Sscan(word, &n); i > 0 && n > mostCount {
			first[i] = fmt.Sprint(mostCount)
		}
	}
	first[5] = fmt.Sprint(origin)
	var b strings.Builder
	for _, words := range l {
		b.WriteString(lineOf(words))
	}
	if b.Len() > mostBytes {
		return "", api.ErrLong
	}
	return b.String(), api.OK
}

func isFrom(t *testing.T, text string, origin uint64, wanted string, f api.Errno) {
	t.Helper()
	if got, e := twin.From(text, origin); got != wanted || e != f {
		t.Fatalf("of %.300q from %d on there is told %.300q, %d, wanted %.300q, %d", text, origin, got, e, wanted, f)
	}
}

// checkFrom holds From of a script that may be against the model.
func checkFrom(t *testing.T, text string, origin uint64) {
	t.Helper()
	wanted, e := fromOf(text, origin)
	isFrom(t, text, origin, wanted, e)
	if e == api.OK {
		isFrom(t, wanted, origin, wanted, e)
	}
}

// checkTwins: a script's twins are those of a machine, and all alike.
func checkTwins(t *testing.T, text string, origins ...uint64) []string {
	t.Helper()
	l, e := twin.Twins(text, origins...)
	if len(l) != 1+len(origins) || e != api.OK {
		t.Fatalf("of %.300q, from %v on, there are %d twins, %d", text, origins, len(l), e)
	}
	wanted, _, _ := machine.Run(text)
	for i, lines := range l {
		if at := firstUnlike(lines, wanted); at >= 0 {
			t.Fatalf("of %.300q, from %v on, the twin %d is another one from the line %d on", text, origins, i, at)
		}
	}
	if !twin.Alike(l...) {
		t.Fatalf("of %.300q the twins aren't alike", text)
	}
	return wanted
}

func failTwins(t *testing.T, text string, wanted api.Errno, origins ...uint64) {
	t.Helper()
	if l, e := twin.Twins(text, origins...); len(l) != 0 || e != wanted {
		t.Errorf("of %.300q, from %v on, there are told %d twins, %d, wanted %d", text, origins, len(l), e, wanted)
	}
}

// firstUnlike says by each line's place, and its words, where two lists begin to differ.
func firstUnlike(a, b []string) int {
	all := map[int][2]string{}
	for i, line := range a {
		all[i] = [2]string{"is " + line, "isn't"}
	}
	for i, line := range b {
		x := all[i]
		if x[0] == "" {
			x[0] = "isn't"
		}
		x[1] = "is " + line
		all[i] = x
	}
	for i := range len(all) {
		if all[i][0] != all[i][1] {
			return i
		}
	}
	return -1
}

func isDiffer(t *testing.T, a, b []string, wanted int) {
	t.Helper()
	for _, pair := range [][2][]string{{a, b}, {b, a}} {
		if got := twin.Differ(pair[0], pair[1]); got != wanted {
			t.Errorf("%.200q and %.200q differ at %d, wanted %d", pair[0], pair[1], got, wanted)
		}
	}
}

// chance: numbers without a pattern, but always the same.
func chance(seed int) func(n int) int {
	x := uint64(seed)*2 + 88172645463325253
	return func(n int) int {
		x ^= x << 13
		x ^= x >> 7
		x ^= x << 17
		return int(x >> 8 % uint64(n))
	}
}

// one of some.
func one[T any](next func(n int) int, l ...T) T { return l[next(len(l))] }

// A world is what scripts of one kind may tell of: of great lengths no little ones, since a tick has a step for each part.
type world struct{ cores, tasks, least, most, weight int }

func worldOf(next func(n int) int) world {
	w := world{cores: 1 + next(3), tasks: one(next, 2, 5, 32), least: 1, most: 1 + next(200), weight: 1 + next(30)}
	if next(2) == 0 {
		w.least, w.most, w.weight = 1<<34, 1<<40, 1<<20
	}
	return w
}

// length is that of a tick or a slice, which may be refused.
func (w world) length(next func(n int) int) string {
	return fmt.Sprint(one(next, 0, w.least, w.most, w.most+1, w.least+next(w.most-w.least+1), w.least+next(w.most-w.least+1)))
}

// heaviness is a weight, which may be refused.
func (w world) heaviness(next func(n int) int) string {
	return fmt.Sprint(one(next, 1, w.weight, 1+next(w.weight), 1+next(w.weight), next(w.weight+2), 1<<20+next(2)))
}

// commandOf are the words of a command without a pattern, that may be refused.
func commandOf(next func(n int) int, w world) []string {
	name := one(next, "a", "b", "c", "#1", "#2", "#3", fmt.Sprint("#", 1+next(w.tasks)), "#0", "#x", "nobody")
	core := fmt.Sprint(next(w.cores + 1))
	switch next(18) {
	case 0, 1, 2, 3:
		return []string{"spawn", one(next, "a", "b", "c"), core, w.heaviness(next), w.length(next)}
	case 4:
		return []string{"exit", name}
	case 5, 6:
		return []string{"sleep", name}
	case 7, 8:
		return []string{"wake", name}
	case 9:
		return []string{"weight", name, w.heaviness(next)}
	case 10:
		return []string{"slice", name, w.length(next)}
	case 11, 12:
		return []string{"migrate", name, core}
	case 13:
		return []string{"task", name}
	case 14:
		return one(next, []string{"tasks"}, []string{"tasks", "sleeping"}, []string{"tasks", "runnable", "lingering", "runnable"}, []string{"cores"}, []string{"runs"})
	}
	return []string{"tick", w.length(next)}
}

// scriptOf is a script of so many commands, laid out without a pattern.
func scriptOf(next func(n int) int, commands int, origin uint64) string {
	w := worldOf(next)
	lines := [][]string{{"system", fmt.Sprint(w.cores), fmt.Sprint(w.tasks), fmt.Sprint(w.most), fmt.Sprint(w.most), fmt.Sprint(origin)}}
	for range commands {
		lines = append(lines, commandOf(next, w))
	}
	lines = append(lines, []string{"tasks"}, []string{"cores"})
	var b strings.Builder
	for _, words := range lines {
		if next(5) == 0 {
			b.WriteString(one(next, "\n", "  \n", "# nothing\n", " #tick\n"))
		}
		b.WriteString(one(next, "", "", " ", "   ") + strings.Join(words, one(next, " ", " ", "  ")) + one(next, "", "", "  ") + "\n")
	}
	return strings.TrimSuffix(b.String(), one(next, "", "\n"))
}
