package diagram_test

import (
	"reflect"
	"slices"
	"strings"
	"testing"

	"diagram/api"
	"diagram/diagram"
)

// text: lines with / between.
func text(lines string) string { return strings.ReplaceAll(lines, " / ", "\n") }

// judged checks a circuit and holds the answer against the reader's.
func judged(t *testing.T, circuit string) (api.Verdict, api.Errno, int) {
	t.Helper()
	v, e, line := diagram.Check(circuit)
	p, wantErrno, wantLine := read(circuit)
	if e != wantErrno || line != wantLine {
		t.Fatalf("Check(%q): error %d in line %d, want %d, %d", circuit, e, line, wantErrno, wantLine)
	}
	if e != api.OK {
		isEmpty(t, circuit, v)
		return v, e, line
	}
	states, length := p.comesTo()
	switch {
	case v.Safe != (length < 0):
		t.Fatalf("Check(%q) = %+v, the shortest bad run: %d", circuit, v, length)
	case v.Safe && (v.States != states || len(v.Start) != 0 || len(v.Inputs) != 0):
		t.Fatalf("Check(%q) = %+v, want %d states", circuit, v, states)
	case !v.Safe && (v.States != 0 || len(v.Inputs) != length+1):
		t.Fatalf("Check(%q) = %+v, the shortest bad run: %d", circuit, v, length)
	case !v.Safe:
		p.runs(t, circuit, v)
	}
	return v, e, line
}

// isEmpty: what comes with an error.
func isEmpty(t *testing.T, circuit string, v api.Verdict) {
	t.Helper()
	if v.Safe || v.States != 0 || len(v.Start) != 0 || len(v.Inputs) != 0 {
		t.Fatalf("Check(%q): %+v with an error", circuit, v)
	}
}

// runs makes the run that a verdict tells: it must be a bad one.
func (p *plan) runs(t *testing.T, circuit string, v api.Verdict) {
	t.Helper()
	state := bits(v.Start)
	if len(v.Start) != len(p.latches) || !p.isFirst(state) {
		t.Fatalf("Check(%q): the start %v", circuit, v.Start)
	}
	for i, inputs := range v.Inputs {
		if len(inputs) != len(p.inputs) {
			t.Fatalf("Check(%q): the inputs %v", circuit, inputs)
		}
		if i == len(v.Inputs)-1 {
			if !p.isBad(state, bits(inputs)) {
				t.Fatalf("Check(%q) = %+v: that run is not bad", circuit, v)
			}
			return
		}
		state = p.stepped(state, bits(inputs))
	}
}

// bits of values, the first the least: as the reader numbers states.
func bits(values []bool) int {
	number := 0
	for i, value := range values {
		if value {
			number |= 1 << i
		}
	}
	return number
}

const counter = "in go / latch a 0 / latch b 0 / next a = a ^ go / next b = b ^ (a & go) / bad = "

// safe: circuits without a bad run, and how many states they reach.
var safe = []struct {
	lines  string
	states int
}{
	// The document's.
	{counter + "a & b & !go & go", 4},
	{"in go / latch a 0 / latch b 0 / next a = a ^ go / next b = b & a / bad = b", 2},
	// No latch at all: the one state.
	{"bad = 0", 1},
	{"in x / bad = x & !x", 1},
	{"in x / in y / in z / bad = x & y & z & 0", 1},
	// What latches hold at first.
	{"latch a 0 / next a = a / bad = a", 1},
	{"latch a 1 / next a = a / bad = !a", 1},
	{"latch a ? / next a = a / bad = a & !a", 2},
	{"latch a ? / latch b 1 / next a = 0 / next b = 0 / bad = 0", 3},
	{"latch a ? / latch b ? / latch c ? / latch d ? / next a = 0 / next b = 0 / next c = 0 / next d = 0 / bad = 0", 16},
	// A step is made of all latches at once.
	{"latch a 1 / latch b 0 / next a = b / next b = a / bad = a & b | !a & !b", 2},
	{"latch a 1 / latch b 0 / latch c 0 / latch d 0 / next a = d / next b = a / next c = b / next d = c / bad = 0", 4},
	{"latch a 0 / latch b 0 / latch c 0 / latch d 0 / next a = !a / next b = b ^ a / next c = c ^ a & b / next d = d ^ a & b & c / bad = 0", 16},
	// Not all that the inputs could be.
	{"in x / in y / latch a 0 / latch b 0 / next a = x & !y / next b = y & !x / bad = a & b", 3},
	{"in x / in y / in z / latch a 1 / latch b 0 / latch c 0 / latch d 0 / next a = x / next b = y / next c = z / next d = x ^ y ^ z / bad = 0", 9},
	// The signs, and what binds more.
	{"bad = 0 & 1 | 0", 1}, {"bad = 1 ^ 1 | 0", 1}, {"bad = 0 & 1 ^ 0", 1}, {"bad = 1 & 1 ^ 1 & 1", 1}, {"bad = (1 | 1) & 0", 1}, {"bad = (1 | 1) ^ 1", 1},
	{"bad = 1 & (1 ^ 1)", 1}, {"bad = !1 & 0", 1}, {"bad = !(1 | 0)", 1}, {"bad = !!0", 1}, {"bad = 1 ^ 1", 1}, {"bad = 1 ^ 1 ^ 0", 1}, {"bad = !1 | !1", 1},
	// Names that begin lines.
	{"in in / latch latch 0 / latch next 0 / latch bad 0 / next latch = in & latch / next next = next & bad / next bad = bad & in / bad = latch | next | bad", 1},
	// Declared behind.
	{"bad = a & x / next a = a & b / next b = b ^ x / latch b 0 / latch a 0 / in x", 2},
	// Blanks and lines without words.
	{"\n  \n   latch   a   0   \n\n next a=!(1)&a|0^0\n   bad=a\n", 1},
	{"latch a? / next a=(a) / bad=!( ! (0) )", 2},
	{"\n\n\nbad=0\n\n\n ", 1},
}

func TestP9Safe(t *testing.T) {
	for _, c := range safe {
		v, e, line := judged(t, text(c.lines))
		if e != api.OK || line != 0 || !v.Safe || v.States != c.states {
			t.Errorf("Check(%q) = %+v, %d, %d, want safe, %d states", c.lines, v, e, line, c.states)
		}
	}
}

// notSafe: circuits with a bad run, and one that none is shorter than: what the latches hold at first, then the inputs. A - may be either.
var notSafe = []struct {
	lines string
	run   string
}{
	{counter + "a & b", "00 1 1 1 -"},
	{counter + "a & b & go", "00 1 1 1 1"},
	{counter + "a & b & !go", "00 1 1 1 0"},
	// Bad at first, without a step.
	{counter + "!a", "00 -"},
	{counter + "!a & !b & go", "00 1"},
	{"latch a 1 / next a = a / bad = a", "1 "},
	{"latch a ? / latch b ? / next a = 0 / next b = 0 / bad = b & !a", "01 "},
	// No latch, no input.
	{"bad = 1", " "},
	{"in x / in y / bad = x & !y", " 10"},
	{"in x / in y / in z / bad = !x & y & !z", " 010"},
	{"latch a 0 / next a = !a / bad = a", "0  "},
	// Which of the states at first leads there.
	{"latch a ? / latch b 0 / next a = a / next b = a / bad = b", "10  "},
	{"latch a ? / latch b ? / latch c 0 / next a = a / next b = b / next c = a & !b / bad = c", "100  "},
	{"latch a ? / latch b ? / latch c 0 / latch d 0 / next a = a / next b = b / next c = b & !a / next d = c / bad = d", "0100   "},
	// The shorter of two ways; the longer one is found by less.
	{"in x / latch a 0 / latch b 0 / latch c 0 / next a = !a / next b = b ^ a / next c = c | x / bad = c | a & b", "000 1 -"},
	// One way only.
	{"in x / in y / latch a 0 / latch b 0 / next a = x & !y / next b = a & y & !x / bad = b & x & y", "00 10 01 11"},
	{"in x / in y / in z / latch a 1 / latch b 0 / latch c 0 / latch d 0 / next a = 0 / next b = a & x & !y & z / next c = b & !x & y & z / next d = c & !x & !y & !z / bad = d & x & y & !z", "1000 101 011 000 110"},
	// The longest: through all states.
	{"latch a 0 / latch b 0 / latch c 0 / latch d 0 / next a = !a / next b = b ^ a / next c = c ^ a & b / next d = d ^ a & b & c / bad = a & b & c & d", "0000" + strings.Repeat(" ", 16)},
	// The order of the latches and the inputs is that of their lines, wherever else they stand.
	{"bad = z & !y & b & !a / next b = 1 / in z / latch b 0 / in y / latch a ? / next a = a", "00 -- 10"},
	// The signs, and what binds more.
	{"bad = 1 | 1 & 0", " "}, {"bad = 1 | 1 ^ 1", " "}, {"bad = 1 ^ 1 & 0", " "}, {"bad = 0 & 0 ^ 1", " "}, {"bad = 0 & 0 | 1", " "}, {"bad = 1 ^ 1 | 1", " "}, {"bad = !0 | 1", " "}, {"bad = !1 | 1", " "},
	{"bad = !0", " "}, {"bad = !(0)", " "}, {"bad = !!1", " "}, {"bad = 0 ^ 1", " "}, {"bad = 1 ^ 1 ^ 1", " "}, {"bad = 1 & 1 & 1", " "}, {"bad = 0 | 0 | 1", " "}, {"bad = (((1)))", " "},
}

// shown writes a run as the cases have it.
func shown(v api.Verdict) string {
	write := func(values []bool) string {
		out := ""
		for _, value := range values {
			out += map[bool]string{true: "1", false: "0"}[value]
		}
		return out
	}
	out := write(v.Start)
	for _, inputs := range v.Inputs {
		out += " " + write(inputs)
	}
	return out
}

// fits tells whether a run is one that a case allows.
func fits(run, pattern string) bool {
	if len(run) != len(pattern) {
		return false
	}
	for i := range run {
		if run[i] != pattern[i] && (pattern[i] != '-' || run[i] == ' ') {
			return false
		}
	}
	return true
}

func TestP9Unsafe(t *testing.T) {
	for _, c := range notSafe {
		v, e, line := judged(t, text(c.lines))
		if e != api.OK || line != 0 || v.Safe || v.States != 0 || !fits(shown(v), c.run) {
			t.Errorf("Check(%q) = %+v, %d, %d, want the run %q", c.lines, v, e, line, c.run)
		}
	}
}

// TestP2CheckGivesNewMemory: what is written into an answer, its spare room too, is seen neither in its other lists nor in a later answer.
func TestP2CheckGivesNewMemory(t *testing.T) {
	for _, c := range notSafe {
		v, _, _ := diagram.Check(text(c.lines))
		lists := append([][]bool{v.Start}, v.Inputs...)
		for i := range lists {
			lists[i] = lists[i][:cap(lists[i])]
			clear(lists[i])
		}
		for i := range lists {
			fill(lists[i], true)
			if slices.Contains(slices.Concat(slices.Concat(lists[:i]...), slices.Concat(lists[i+1:]...)), true) {
				t.Errorf("Check(%q): two lists share memory", c.lines)
			}
			clear(lists[i])
		}
		clear(v.Inputs[:cap(v.Inputs)])
		again, _, _ := diagram.Check(text(c.lines))
		if !fits(shown(again), c.run) {
			t.Errorf("Check(%q) = %+v, once an answer was written into", c.lines, again)
		}
	}
}

func fill(list []bool, value bool) {
	for i := range list {
		list[i] = value
	}
}

// TestP2CheckAnswersAlike: the same text, the same answer, whatever was checked between.
func TestP2CheckAnswersAlike(t *testing.T) {
	var before []api.Verdict
	for range 20 {
		var now []api.Verdict
		for _, c := range notSafe {
			v, _, _ := diagram.Check(text(c.lines))
			now = append(now, v)
		}
		if before != nil && !reflect.DeepEqual(now, before) {
			t.Fatalf("%+v, and then %+v", before, now)
		}
		before = now
	}
}
