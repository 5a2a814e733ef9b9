package diagram_test

import (
	"math"
	"regexp"
	"strconv"
	"strings"

	"diagram/api"
)

// A reader of circuits by patterns: what Check must tell, found another way.

const namePattern = `[a-z][a-z0-9]{0,7}`

var (
	lineBytes   = regexp.MustCompile(`^[a-z0-9=?!&^|() ]*$`)
	runs        = regexp.MustCompile(`[a-z0-9]+`)
	nameOrDigit = regexp.MustCompile(`^(` + namePattern + `|0|1)$`)
	signs       = regexp.MustCompile(`[=?!&^|()]`)
	inputLine   = regexp.MustCompile(`^in (` + namePattern + `)$`)
	latchLine   = regexp.MustCompile(`^latch (` + namePattern + `) ([01?])$`)
	nextLine    = regexp.MustCompile(`^next (` + namePattern + `) = (.+)$`)
	badLine     = regexp.MustCompile(`^(bad) = (.+)$`)
	names       = regexp.MustCompile(`[a-z][a-z0-9]*`)
	innermost   = regexp.MustCompile(`\([^()]*\)`)
	flat        = regexp.MustCompile(`^ *(! *)*[0-9]+ *([&^|] *(! *)*[0-9]+ *)*$`)
	operands    = regexp.MustCompile(`(! *)*[0-9]+`)
)

// said: a line that the reader understood; its words with one blank between.
type said struct {
	number            int
	kind, name, first string
	value             string
}

// plan: a circuit that the reader understood.
type plan struct {
	inputs  []string
	latches []said
	nexts   map[string]string
	bad     string
}

// plain gives a line's words with one blank between, if it has no others.
func plain(line string) (string, bool) {
	if !lineBytes.MatchString(line) {
		return "", false
	}
	for _, run := range runs.FindAllString(line, -1) {
		if !nameOrDigit.MatchString(run) {
			return "", false
		}
	}
	return strings.Join(strings.Fields(signs.ReplaceAllString(line, " $0 ")), " "), true
}

// deepest tells how deep brackets and ! stand in an expr; a value stands for how deep it goes.
func deepest(expr string) (int, bool) {
	expr = runs.ReplaceAllString(expr, "0")
	ok := true
	for ok && innermost.MatchString(expr) {
		expr = innermost.ReplaceAllStringFunc(expr, func(b string) string {
			deep, is := deepestFlat(b[1 : len(b)-1])
			ok = ok && is
			return " " + strconv.Itoa(deep+1) + " "
		})
	}
	deep, is := deepestFlat(expr)
	return deep, ok && is
}

func deepestFlat(expr string) (int, bool) {
	deep := 0
	for _, operand := range operands.FindAllString(expr, -1) {
		value, _ := strconv.Atoi(strings.Trim(operand, "! "))
		deep = max(deep, strings.Count(operand, "!")+value)
	}
	return deep, flat.MatchString(expr)
}

// understand reads a line, if it is one that may be.
func understand(line string) (said, bool) {
	text, ok := plain(line)
	if !ok || text == "" {
		return said{}, ok
	}
	if m := inputLine.FindStringSubmatch(text); m != nil {
		return said{kind: "in", name: m[1]}, true
	}
	if m := latchLine.FindStringSubmatch(text); m != nil {
		return said{kind: "latch", name: m[1], first: m[2]}, true
	}
	for kind, pattern := range map[string]*regexp.Regexp{"next": nextLine, "bad": badLine} {
		if m := pattern.FindStringSubmatch(text); m != nil {
			deep, ok := deepest(m[2])
			return said{kind: kind, name: m[1], value: m[2]}, ok && deep <= 8
		}
	}
	return said{}, false
}

// read reads a circuit, or tells what is wrong.
func read(text string) (*plan, api.Errno, int) {
	if len(text) > 1000 {
		return nil, api.ErrLimit, 0
	}
	var all []said
	for i, line := range strings.Split(text, "\n") {
		l, ok := understand(line)
		if !ok {
			return nil, api.ErrText, i + 1
		}
		l.number = i + 1
		all = append(all, l)
	}
	for _, fault := range []struct {
		e     api.Errno
		found func([]said, said) bool
	}{{api.ErrTwice, isTwice}, {api.ErrLimit, isTooMany}, {api.ErrName, isUnknown}, {api.ErrMissing, isWithoutNext}} {
		for _, l := range all {
			if fault.found(all, l) {
				return nil, fault.e, l.number
			}
		}
	}
	p := &plan{nexts: map[string]string{}}
	for _, l := range all {
		switch l.kind {
		case "in":
			p.inputs = append(p.inputs, l.name)
		case "latch":
			p.latches = append(p.latches, l)
		case "next":
			p.nexts[l.name] = l.value
		case "bad":
			p.bad = l.value
		}
	}
	if p.bad == "" {
		return nil, api.ErrMissing, 0
	}
	return p, api.OK, 0
}

// some tells of how many lines something holds.
func some(all []said, holds func(said) bool) int {
	n := 0
	for _, l := range all {
		if holds(l) {
			n++
		}
	}
	return n
}

func isTwice(all []said, l said) bool {
	return some(all, func(o said) bool {
		if o.number >= l.number || o.name != l.name {
			return false
		}
		declares := func(x said) bool { return x.kind == "in" || x.kind == "latch" }
		return declares(l) && declares(o) || !declares(l) && l.kind != "" && l.kind == o.kind
	}) > 0
}

func isTooMany(all []said, l said) bool {
	before := some(all, func(o said) bool { return o.kind == l.kind && o.number < l.number })
	return l.kind == "in" && before >= 3 || l.kind == "latch" && before >= 4
}

func isUnknown(all []said, l said) bool {
	declared := func(name string, kinds string) bool {
		return some(all, func(o said) bool { return o.name == name && o.kind != "" && strings.Contains(kinds, o.kind) }) > 0
	}
	for _, name := range names.FindAllString(l.value, -1) {
		if !declared(name, "in latch") {
			return true
		}
	}
	return l.kind == "next" && !declared(l.name, "latch")
}

func isWithoutNext(all []said, l said) bool {
	return l.kind == "latch" && some(all, func(o said) bool { return o.kind == "next" && o.name == l.name }) == 0
}

// rules: what is put in the place of what, what binds most first.
var rules = [][]string{
	{"!0", "1", "!1", "0"},
	{"0&0", "0", "0&1", "0", "1&0", "0", "1&1", "1"},
	{"0^0", "0", "0^1", "1", "1^0", "1", "1^1", "0"},
	{"0|0", "0", "0|1", "1", "1|0", "1", "1|1", "1"},
}

// reduced gives what an expr without names and brackets comes to.
func reduced(expr string) string {
	for _, rule := range rules {
		for i := 0; i < len(rule); i += 2 {
			if strings.Contains(expr, rule[i]) {
				expr = strings.Replace(expr, rule[i], rule[i+1], 1)
				i = -2
			}
		}
	}
	return expr
}

// value tells what an expr is where names have these values.
func value(expr string, of map[string]bool) bool {
	expr = names.ReplaceAllStringFunc(strings.ReplaceAll(expr, " ", ""), func(name string) string {
		if of[name] {
			return "1"
		}
		return "0"
	})
	for innermost.MatchString(expr) {
		expr = innermost.ReplaceAllStringFunc(expr, func(b string) string { return reduced(b[1 : len(b)-1]) })
	}
	return reduced(expr) == "1"
}

// valuesOf gives the values of names, by the numbers of a state and of an assignment of the inputs.
func (p *plan) valuesOf(state, inputs int) map[string]bool {
	of := map[string]bool{}
	for j, latch := range p.latches {
		of[latch.name] = state>>j&1 == 1
	}
	for i, input := range p.inputs {
		of[input] = inputs>>i&1 == 1
	}
	return of
}

// isFirst tells whether a state agrees with what the latches hold at first.
func (p *plan) isFirst(state int) bool {
	for j, latch := range p.latches {
		if latch.first != "?" && (latch.first == "1") != (state>>j&1 == 1) {
			return false
		}
	}
	return true
}

// stepped gives the state behind a step.
func (p *plan) stepped(state, inputs int) int {
	of := p.valuesOf(state, inputs)
	to := 0
	for j, latch := range p.latches {
		if value(p.nexts[latch.name], of) {
			to |= 1 << j
		}
	}
	return to
}

func (p *plan) isBad(state, inputs int) bool { return value(p.bad, p.valuesOf(state, inputs)) }

// comesTo tells how many states are reachable, and the length of the shortest bad run; -1, if there is none.
func (p *plan) comesTo() (states, length int) {
	far := make([]int, 1<<len(p.latches))
	for state := range far {
		far[state] = math.MaxInt - 1
		if p.isFirst(state) {
			far[state] = 0
		}
	}
	to := map[[2]int]int{}
	for state := range far {
		for inputs := range 1 << len(p.inputs) {
			to[[2]int{state, inputs}] = p.stepped(state, inputs)
		}
	}
	for range far { // a way to a state has no more steps than there are states
		for from, end := range to {
			far[end] = min(far[end], far[from[0]]+1)
		}
	}
	length = math.MaxInt - 1
	for state := range far {
		if far[state] < math.MaxInt-1 {
			states++
		}
		for inputs := range 1 << len(p.inputs) {
			if p.isBad(state, inputs) {
				length = min(length, far[state])
			}
		}
	}
	if length == math.MaxInt-1 {
		length = -1
	}
	return states, length
}
