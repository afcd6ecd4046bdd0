package query

import (
	"strconv"
	"strings"

	"turnstone/table"
)

// Lines: of rows.
func Lines(rows ...Row) []string {
	var l []string
	for _, r := range rows {
		l = append(l, r.line())
	}
	return l
}

// CoreLines: of cores.
func CoreLines(l ...Core) []string {
	var lines []string
	for _, c := range l {
		lines = append(lines, c.line())
	}
	return lines
}

func (r Row) line() string {
	x, entry := r.Task, r.Entry
	runs := "waits"
	if r.Runs {
		runs = "runs"
	}
	return line(
		strconv.Itoa(x.ID), stateWord(x.State), strconv.Itoa(x.Core), digits(uint64(x.W)), digits(x.Slice),
		r.Lag.String(), digits(r.Left), runs,
		digits(entry.Served), digits(entry.Requests), digits(entry.Parts), digits(entry.Gone),
	)
}

func (c Core) line() string {
	return line(
		"core", strconv.Itoa(c.Number), strconv.Itoa(c.Run), strconv.Itoa(c.Runnable), strconv.Itoa(c.Lingering),
		digits(c.Weight), c.Carried.String(),
		digits(c.Count.Busy), digits(c.Count.Idle), digits(c.Count.Switches),
	)
}

func line(words ...string) string { return strings.Join(words, " ") }

func digits(n uint64) string { return strconv.FormatUint(n, 10) }

func stateWord(state uint8) string {
	switch state {
	case table.Free:
		return "free"
	case table.Runnable:
		return "runnable"
	case table.Lingering:
		return "lingering"
	case table.Sleeping:
		return "sleeping"
	}
	return "other"
}
