package diagram

import (
	"diagram/api"
	"diagram/nodes"
)

// moment of a run: a state, and the inputs that are given there.
type moment struct {
	state, inputs int
}

// verdict tells what a machine can come to.
func (m *machine) verdict() api.Verdict {
	levels, end, found := m.explore()
	if found {
		return m.shown(m.back(levels, end))
	}
	reached := nodes.False
	for _, states := range levels {
		reached = m.or(reached, states)
	}
	return api.Verdict{Safe: true, States: m.table.Count(reached, m.latches)}
}

// explore gives the states level by level: at each those that so many steps reach, but no fewer. It ends at the first level with a bad moment.
func (m *machine) explore() (levels []nodes.Function, end moment, found bool) {
	reached := nodes.False
	states := m.first
explore:
	for states != nodes.False {
		levels = append(levels, states)
		for inputs := range 1 << m.inputs {
			if state, ok := m.some(m.and(states, m.given(m.bad, inputs))); ok {
				end, found = moment{state, inputs}, true
				break explore // those of the level are reached by equally many steps: any will do
			}
		}
		reached = m.or(reached, states)
		states = m.and(m.behind(states), m.table.Not(reached))
	}
	return levels, end, found
}

// back gives the moments of a run through the levels that ends in that moment, the last first.
func (m *machine) back(levels []nodes.Function, end moment) []moment {
	way := []moment{end}
back:
	for level := len(levels) - 2; level >= 0; level-- {
		steps := m.into(way[len(way)-1].state)
		for inputs := range 1 << m.inputs {
			if state, ok := m.some(m.and(levels[level], m.given(steps, inputs))); ok {
				way = append(way, moment{state, inputs})
				continue back
			}
		}
	}
	return way
}

// shown gives the verdict that shows a way, the last of which is its start.
func (m *machine) shown(way []moment) api.Verdict {
	v := api.Verdict{Inputs: make([][]bool, len(way))}
	for i, at := range way {
		v.Inputs[len(way)-1-i] = digits(at.inputs, m.inputs)
	}
	v.Start = digits(way[len(way)-1].state, m.latches)
	return v
}
