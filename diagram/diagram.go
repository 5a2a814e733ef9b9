// Package diagram: truth functions as decision diagrams, and what a circuit can come to: see DOC.md.
package diagram

import (
	"slices"

	"diagram/api"
	"diagram/circuits"
	"diagram/nodes"
)

// Store: functions that are held.
type Store struct {
	limit int
	given int // the handles up to this one
	order []int
	held  map[int]nodes.Function
	table *nodes.Table // has just the nodes of what is held; its levels are the places of the order
}

// New makes a store (P3).
func New(variables int, limit int) (*Store, api.Errno) {
	if variables < 1 || variables > api.MaxVariables || limit < 0 || limit > api.MaxLimit {
		return nil, api.ErrRange
	}
	s := &Store{limit: limit, held: map[int]nodes.Function{}, table: nodes.NewTable()}
	for i := range variables {
		s.order = append(s.order, i)
	}
	return s, api.OK
}

// Constant holds a constant (P4).
func (s *Store) Constant(value bool) (int, api.Errno) {
	return s.hold(func() nodes.Function {
		if value {
			return nodes.True
		}
		return nodes.False
	})
}

// Variable holds a variable (P4).
func (s *Store) Variable(i int) (int, api.Errno) {
	if refusal := s.known(i); refusal != api.OK {
		return 0, refusal
	}
	return s.hold(func() nodes.Function { return s.table.Variable(s.place(i)) })
}

// Not holds what a function is not (P4).
func (s *Store) Not(f int) (int, api.Errno) {
	of, refusal := s.find(f)
	if refusal != api.OK {
		return 0, refusal
	}
	return s.hold(func() nodes.Function { return s.table.Not(of[0]) })
}

// Apply holds two functions, combined (P4).
func (s *Store) Apply(what int, f int, g int) (int, api.Errno) {
	of, refusal := s.find(f, g)
	if refusal != api.OK {
		return 0, refusal
	}
	if what < api.And || what > api.Implies {
		return 0, api.ErrRange
	}
	return s.hold(func() nodes.Function { return combine(s.table, what, of[0], of[1]) })
}

// Choose holds one function or another, by a third (P4).
func (s *Store) Choose(f int, g int, h int) (int, api.Errno) {
	of, refusal := s.find(f, g, h)
	if refusal != api.OK {
		return 0, refusal
	}
	return s.hold(func() nodes.Function { return s.table.Choose(of[0], of[1], of[2]) })
}

// Release lets a handle go (P5).
func (s *Store) Release(f int) api.Errno {
	if _, refusal := s.find(f); refusal != api.OK {
		return refusal
	}
	delete(s.held, f)
	s.forget()
	return api.OK
}

// Same tells whether two functions are the same (P5).
func (s *Store) Same(f int, g int) (bool, api.Errno) {
	of, refusal := s.find(f, g)
	if refusal != api.OK {
		return false, refusal
	}
	return of[0] == of[1], api.OK
}

// Value tells a function's value (P5).
func (s *Store) Value(f int, assignment []bool) (bool, api.Errno) {
	of, refusal := s.find(f)
	if refusal != api.OK {
		return false, refusal
	}
	if len(assignment) != len(s.order) {
		return false, api.ErrRange
	}
	values := make([]bool, len(s.order))
	for place, i := range s.order {
		values[place] = assignment[i]
	}
	return s.table.Value(of[0], values), api.OK
}

// Count tells how often a function is true (P5).
func (s *Store) Count(f int) (int, api.Errno) {
	of, refusal := s.find(f)
	if refusal != api.OK {
		return 0, refusal
	}
	return s.table.Count(of[0], len(s.order)), api.OK
}

// Nodes tells how many nodes there are (P5).
func (s *Store) Nodes() int { return s.table.Len() }

// Restrict holds a function with a variable given (P6).
func (s *Store) Restrict(f int, i int, value bool) (int, api.Errno) {
	of, refusal := s.findWith(f, i)
	if refusal != api.OK {
		return 0, refusal
	}
	return s.hold(func() nodes.Function { return s.table.Restrict(of, s.place(i), value) })
}

// Exists holds whether there are values for variables (P6).
func (s *Store) Exists(f int, variables []int) (int, api.Errno) {
	of, refusal := s.findWith(f, variables...)
	if refusal != api.OK {
		return 0, refusal
	}
	free := make([]bool, len(s.order))
	for _, i := range variables {
		free[s.place(i)] = true
	}
	return s.hold(func() nodes.Function { return s.table.Exists(of, free) })
}

// Swap holds a function with two variables in each other's place (P6).
func (s *Store) Swap(f int, i int, j int) (int, api.Errno) {
	of, refusal := s.findWith(f, i, j)
	if refusal != api.OK {
		return 0, refusal
	}
	return s.hold(func() nodes.Function { return s.table.Swap(of, s.place(i), s.place(j)) })
}

// Least tells the least assignment of which a function is true (P7).
func (s *Store) Least(f int) ([]bool, api.Errno) {
	of, refusal := s.find(f)
	if refusal != api.OK {
		return nil, refusal
	}
	weights := make([]int, len(s.order))
	for place, i := range s.order {
		weights[place] = 1 << (len(s.order) - 1 - i)
	}
	number, ok := s.table.Least(of[0], weights)
	if !ok {
		return nil, api.OK
	}
	assignment := make([]bool, len(s.order))
	for place, i := range s.order {
		assignment[i] = number&weights[place] != 0
	}
	return assignment, api.OK
}

// Size tells how many nodes a function has (P7).
func (s *Store) Size(f int) (int, api.Errno) {
	of, refusal := s.find(f)
	if refusal != api.OK {
		return 0, refusal
	}
	has := nodes.Set{}
	s.table.Gather(of[0], has)
	return len(has), api.OK
}

// Order tells the order (P8).
func (s *Store) Order() []int { return slices.Clone(s.order) }

// Reorder gives the store another order (P8).
func (s *Store) Reorder(order []int) api.Errno {
	if !s.isOrder(order) {
		return api.ErrOrder
	}
	before := s.Order()
	s.arrange(order)
	if s.table.Len() > s.limit {
		s.arrange(before)
		return api.ErrFull
	}
	return api.OK
}

// Sift looks for a better order (P8).
func (s *Store) Sift() {
search:
	for {
		for i := range len(s.order) {
			if s.settle(i) {
				continue search // what stayed ahead of it may now have a better place
			}
		}
		break search
	}
}

// Check looks at a circuit (P9).
func Check(circuit string) (api.Verdict, api.Errno, int) {
	c, refusal, line := circuits.Read(circuit)
	if refusal != api.OK {
		return api.Verdict{}, refusal, line
	}
	return build(c).verdict(), api.OK, 0
}
