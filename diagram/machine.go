package diagram

import (
	"diagram/api"
	"diagram/circuits"
	"diagram/nodes"
)

// machine: a circuit as functions. Its levels: the latches, then the latches behind a step, then the inputs.
// States and assignments of the inputs go by their numbers; sets of states are functions of the latches.
type machine struct {
	table   *nodes.Table
	latches int
	inputs  int
	first   nodes.Function // the states that may be at first
	step    nodes.Function // true where the latches behind a step hold what it makes of latches and inputs
	bad     nodes.Function
}

// build makes the machine of a circuit.
func build(c circuits.Circuit) *machine {
	m := &machine{
		table:   nodes.NewTable(),
		latches: len(c.Latches),
		inputs:  len(c.Inputs),
		first:   nodes.True,
		step:    nodes.True,
	}
	levels := m.levels(c)
	for j, latch := range c.Latches {
		m.first = m.and(m.first, m.starts(j, latch.First))
		next := m.function(latch.Next, levels)
		behind := m.table.Variable(m.latches + j)
		m.step = m.and(m.step, m.table.Choose(behind, next, m.table.Not(next)))
	}
	m.bad = m.function(c.Bad, levels)
	return m
}

// levels gives the level of each name.
func (m *machine) levels(c circuits.Circuit) map[string]int {
	levels := map[string]int{}
	for j, latch := range c.Latches {
		levels[latch.Name] = j
	}
	for i, name := range c.Inputs {
		levels[name] = 2*m.latches + i
	}
	return levels
}

// starts gives the states in which a latch holds what it does at first.
func (m *machine) starts(latch int, first string) nodes.Function {
	switch first {
	case "0":
		return m.table.Not(m.table.Variable(latch))
	case "1":
		return m.table.Variable(latch)
	default:
		return nodes.True
	}
}

// function gives the function of an expression, whose signs stand behind what they are of.
func (m *machine) function(e circuits.Expression, levels map[string]int) nodes.Function {
	var parts []nodes.Function
	for _, word := range e {
		last := len(parts) - 1
		switch word {
		case "0":
			parts = append(parts, nodes.False)
		case "1":
			parts = append(parts, nodes.True)
		case "!":
			parts[last] = m.table.Not(parts[last])
		case "&":
			parts = append(parts[:last-1], m.and(parts[last-1], parts[last]))
		case "^":
			parts = append(parts[:last-1], combine(m.table, api.Xor, parts[last-1], parts[last]))
		case "|":
			parts = append(parts[:last-1], m.or(parts[last-1], parts[last]))
		default:
			parts = append(parts, m.table.Variable(levels[word]))
		}
	}
	return parts[0]
}

func (m *machine) and(f, g nodes.Function) nodes.Function { return combine(m.table, api.And, f, g) }

func (m *machine) or(f, g nodes.Function) nodes.Function { return combine(m.table, api.Or, f, g) }

// with gives f with the variables from that level on given these values.
func (m *machine) with(f nodes.Function, level int, values []bool) nodes.Function {
	for i, value := range values {
		f = m.table.Restrict(f, level+i, value)
	}
	return f
}

// given gives f with the inputs given.
func (m *machine) given(f nodes.Function, inputs int) nodes.Function {
	return m.with(f, 2*m.latches, digits(inputs, m.inputs))
}

// into gives the steps that end in a state.
func (m *machine) into(state int) nodes.Function {
	return m.with(m.step, m.latches, digits(state, m.latches))
}

// behind gives the states in which the steps from some states end.
func (m *machine) behind(states nodes.Function) nodes.Function {
	free := make([]bool, 2*m.latches+m.inputs)
	for level := range free {
		free[level] = level < m.latches || level >= 2*m.latches
	}
	ends := m.table.Exists(m.and(states, m.step), free)
	for j := range m.latches {
		ends = m.table.Swap(ends, j, m.latches+j)
	}
	return ends
}

// some gives the first of some states, if there is one.
func (m *machine) some(states nodes.Function) (int, bool) {
	weights := make([]int, m.latches)
	for j := range weights {
		weights[j] = 1 << (m.latches - 1 - j)
	}
	return m.table.Least(states, weights)
}

// digits gives the values of the assignment with that number.
func digits(number, length int) []bool {
	values := make([]bool, length)
	for i := range values {
		values[i] = number>>(length-1-i)&1 == 1
	}
	return values
}
