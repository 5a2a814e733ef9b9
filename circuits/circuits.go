// Package circuits: texts read as circuits.
package circuits

import (
	"strings"

	"diagram/api"
)

// Circuit: a text that was read; no name in it but those of its inputs and latches.
type Circuit struct {
	Inputs  []string
	Latches []Latch
	Bad     Expression
}

// Latch of a circuit; First is 0, 1 or ?.
type Latch struct {
	Name  string
	First string
	Next  Expression
}

// Read reads a circuit, or tells what is wrong with it, and in which line.
func Read(text string) (Circuit, api.Errno, int) {
	if len(text) > api.MaxText {
		return Circuit{}, api.ErrLimit, 0
	}
	lines, wrong := readLines(text)
	if wrong > 0 {
		return Circuit{}, api.ErrText, wrong
	}
	if wrong := twice(lines); wrong > 0 {
		return Circuit{}, api.ErrTwice, wrong
	}
	if wrong := tooMany(lines); wrong > 0 {
		return Circuit{}, api.ErrLimit, wrong
	}
	if wrong := unknown(lines); wrong > 0 {
		return Circuit{}, api.ErrName, wrong
	}
	if wrong, lacks := missing(lines); lacks {
		return Circuit{}, api.ErrMissing, wrong
	}
	return gather(lines), api.OK, 0
}

// readLines reads all lines, or tells the number of the first that can't be read.
func readLines(text string) ([]line, int) {
	var lines []line
	for piece := range strings.SplitSeq(text, "\n") {
		l, ok := readLine(piece)
		lines = append(lines, l)
		if !ok {
			return nil, len(lines)
		}
	}
	return lines, 0
}

// gather makes the circuit of lines with which nothing is wrong.
func gather(lines []line) Circuit {
	var c Circuit
	nexts := map[string]int{} // the places of their lines
	for i, l := range lines {
		switch l.kind {
		case input:
			c.Inputs = append(c.Inputs, l.name)
		case latch:
			c.Latches = append(c.Latches, Latch{Name: l.name, First: l.first})
		case next:
			nexts[l.name] = i
		case bad:
			c.Bad = l.value
		}
	}
	for j, l := range c.Latches {
		c.Latches[j].Next = lines[nexts[l.Name]].value
	}
	return c
}
