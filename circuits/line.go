package circuits

// kind: what a line says.
type kind int

const (
	nothing kind = iota
	input
	latch
	next
	bad
)

// line: one that was read; what its kind has not is empty.
type line struct {
	kind  kind
	name  string
	first string
	value Expression
}

// readLine reads a line, where it is one that may be.
func readLine(text string) (line, bool) {
	words, ok := split(text)
	if !ok || len(words) == 0 {
		return line{}, ok
	}
	switch words[0] {
	case "in":
		return readInput(words[1:])
	case "latch":
		return readLatch(words[1:])
	case "next":
		return readNext(words[1:])
	case "bad":
		return readBad(words[1:])
	}
	return line{}, false
}

// readInput reads what stands behind in.
func readInput(words []string) (line, bool) {
	if len(words) != 1 || !isName(words[0]) {
		return line{}, false
	}
	return line{kind: input, name: words[0]}, true
}

// readLatch reads what stands behind latch.
func readLatch(words []string) (line, bool) {
	if len(words) != 2 || !isName(words[0]) || !isFirst(words[1]) {
		return line{}, false
	}
	return line{kind: latch, name: words[0], first: words[1]}, true
}

// isFirst tells what a latch may be said to hold at first.
func isFirst(word string) bool { return word == "0" || word == "1" || word == "?" }

// readNext reads what stands behind next.
func readNext(words []string) (line, bool) {
	if len(words) < 2 || !isName(words[0]) || words[1] != "=" {
		return line{}, false
	}
	value, ok := parse(words[2:])
	return line{kind: next, name: words[0], value: value}, ok
}

// readBad reads what stands behind bad.
func readBad(words []string) (line, bool) {
	if len(words) < 1 || words[0] != "=" {
		return line{}, false
	}
	value, ok := parse(words[1:])
	return line{kind: bad, value: value}, ok
}
