package circuits

import "diagram/api"

// claim is what no two lines may say.
type claim struct {
	kind kind
	name string
}

// claim of a line; inputs and latches share their names.
func (l line) claim() claim {
	if l.kind == latch {
		return claim{input, l.name}
	}
	return claim{l.kind, l.name}
}

// twice tells the number of the first line that says what one before it said; 0, if there is none.
func twice(lines []line) int {
	said := map[claim]struct{}{}
	for i, l := range lines {
		if _, there := said[l.claim()]; there && l.kind != nothing {
			return i + 1
		}
		said[l.claim()] = struct{}{}
	}
	return 0
}

// tooMany tells the number of the first line that is an input or latch too many; 0, if there is none.
func tooMany(lines []line) int {
	var inputs, latches int
	for i, l := range lines {
		switch l.kind {
		case input:
			inputs++
		case latch:
			latches++
		}
		if inputs > api.MaxInputs || latches > api.MaxLatches {
			return i + 1
		}
	}
	return 0
}

// unknown tells the number of the first line with a name that is not there; 0, if there is none.
func unknown(lines []line) int {
	kinds := map[string]kind{}
	for _, l := range lines {
		if l.kind == input || l.kind == latch {
			kinds[l.name] = l.kind
		}
	}
	for i, l := range lines {
		if l.kind == next && kinds[l.name] != latch {
			return i + 1
		}
		for _, name := range l.value.names() {
			if kinds[name] == nothing {
				return i + 1
			}
		}
	}
	return 0
}

// missing tells whether a next or bad is missing, and the number of the first latch's line that has no next; 0, if they all have.
func missing(lines []line) (int, bool) {
	said := map[claim]struct{}{}
	for _, l := range lines {
		said[l.claim()] = struct{}{}
	}
	for i, l := range lines {
		if _, there := said[claim{next, l.name}]; l.kind == latch && !there {
			return i + 1, true
		}
	}
	_, there := said[claim{kind: bad}]
	return 0, !there
}
