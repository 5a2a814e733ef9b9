// Package nodes: functions of truth values as nodes of a decision diagram, equal parts there once.
package nodes

import (
	"maps"
	"math"
)

// Function names a function of a table: False, True, or the number of its first node.
type Function int

const (
	False Function = 0
	True  Function = 1
)

// Set: some nodes, by their numbers.
type Set map[Function]struct{}

// node asks the variable at its level and goes on to low (false) or high (true).
type node struct {
	level     int
	low, high Function
}

// choice is work of Choose: what it came to is found by it.
type choice struct {
	f, g, h Function
}

// Table has nodes; functions of one table are equal just if their names are.
type Table struct {
	names map[node]Function
	nodes map[Function]node
	last  Function
}

// NewTable makes a table without nodes.
func NewTable() *Table {
	return &Table{names: map[node]Function{}, nodes: map[Function]node{}, last: True}
}

// Len tells how many nodes there are.
func (t *Table) Len() int { return len(t.names) }

// Variable gives the function that is true where the variable at that level is.
func (t *Table) Variable(level int) Function {
	return t.join(node{level, False, True})
}

// Not gives the function that is true where f is false.
func (t *Table) Not(f Function) Function {
	return t.Choose(f, False, True)
}

// Choose gives the function that is g where f is true, and h where it is false.
func (t *Table) Choose(f, g, h Function) Function {
	return t.choose(choice{f, g, h}, map[choice]Function{})
}

func (t *Table) choose(c choice, done map[choice]Function) Function {
	switch {
	case c.f == True:
		return c.g
	case c.f == False:
		return c.h
	case c.g == c.h:
		return c.g
	}
	if known, ok := done[c]; ok {
		return known
	}
	level := min(t.level(c.f), t.level(c.g), t.level(c.h))
	var low, high choice
	low.f, high.f = t.branches(c.f, level)
	low.g, high.g = t.branches(c.g, level)
	low.h, high.h = t.branches(c.h, level)
	made := t.join(node{level, t.choose(low, done), t.choose(high, done)})
	done[c] = made
	return made
}

// level of a constant: behind all others, since it asks no variable.
func (t *Table) level(f Function) int {
	if n, ok := t.nodes[f]; ok {
		return n.level
	}
	return math.MaxInt
}

// branches gives f with the variable at that level false, and true; f asks none ahead of it.
func (t *Table) branches(f Function, level int) (low, high Function) {
	if n, ok := t.nodes[f]; ok && n.level == level {
		return n.low, n.high
	}
	return f, f
}

// join gives the one function of that node: names are equal only if no node is there twice or asks in vain.
func (t *Table) join(n node) Function {
	if n.low == n.high {
		return n.low
	}
	if known, ok := t.names[n]; ok {
		return known
	}
	t.last++
	t.put(t.last, n)
	return t.last
}

// put gives a function its node.
func (t *Table) put(f Function, n node) {
	t.names[n] = f
	t.nodes[f] = n
}

// Value tells f's value, where values has one for each level.
func (t *Table) Value(f Function, values []bool) bool {
	for f != False && f != True {
		n := t.nodes[f]
		f = n.low
		if values[n.level] {
			f = n.high
		}
	}
	return f == True
}

// Count tells of how many assignments f is true, where there are so many levels.
func (t *Table) Count(f Function, levels int) int {
	return t.count(f, map[Function]int{False: 0, True: 1 << levels})
}

func (t *Table) count(f Function, done map[Function]int) int {
	if known, ok := done[f]; ok {
		return known
	}
	n := t.nodes[f]
	// Neither branch hangs on the node's variable, so just half of what makes it true goes this way.
	done[f] = t.count(n.low, done)/2 + t.count(n.high, done)/2
	return done[f]
}

// Least tells the least sum of weights of which f is true, and whether there is one; a weight counts where the variable at its level is true.
func (t *Table) Least(f Function, weights []int) (int, bool) {
	if f == False {
		return 0, false
	}
	return t.least(f, weights, map[Function]int{True: 0}), true
}

func (t *Table) least(f Function, weights []int, done map[Function]int) int {
	if known, ok := done[f]; ok {
		return known
	}
	n := t.nodes[f]
	// What no node asks is false in the least. Never do both ways lead to False: such a node would ask in vain.
	switch {
	case n.low == False:
		done[f] = weights[n.level] + t.least(n.high, weights, done)
	case n.high == False:
		done[f] = t.least(n.low, weights, done)
	default:
		done[f] = min(t.least(n.low, weights, done), weights[n.level]+t.least(n.high, weights, done))
	}
	return done[f]
}

// Gather puts the nodes of f into the set.
func (t *Table) Gather(f Function, into Set) {
	n, ok := t.nodes[f]
	if !ok {
		return
	}
	if _, there := into[f]; there {
		return
	}
	into[f] = struct{}{}
	t.Gather(n.low, into)
	t.Gather(n.high, into)
}

// Keep forgets all nodes but those of the set.
func (t *Table) Keep(set Set) {
	maps.DeleteFunc(t.nodes, func(f Function, n node) bool {
		_, kept := set[f]
		if !kept {
			delete(t.names, n)
		}
		return !kept
	})
}
