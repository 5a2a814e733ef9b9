package diagram

import (
	"diagram/api"
	"diagram/nodes"
)

// find gives the functions of handles, all of which must be held.
func (s *Store) find(handles ...int) ([]nodes.Function, api.Errno) {
	var found []nodes.Function
	for _, handle := range handles {
		f, held := s.held[handle]
		if !held {
			return nil, api.ErrHandle
		}
		found = append(found, f)
	}
	return found, api.OK
}

// known tells whether these are variables of the store.
func (s *Store) known(variables ...int) api.Errno {
	for _, i := range variables {
		if i < 0 || i >= len(s.order) {
			return api.ErrVariable
		}
	}
	return api.OK
}

// findWith gives the function of a handle, where it is held and these are variables.
func (s *Store) findWith(handle int, variables ...int) (nodes.Function, api.Errno) {
	found, refusal := s.find(handle)
	if refusal != api.OK {
		return nodes.False, refusal
	}
	return found[0], s.known(variables...)
}

// hold gives a new handle to what is made, unless that would be too much.
func (s *Store) hold(made func() nodes.Function) (int, api.Errno) {
	if len(s.held) >= api.MaxHandles {
		return 0, api.ErrLimit
	}
	handle := s.given + 1
	s.held[handle] = made()
	s.forget() // what was made on the way does not count
	if s.table.Len() > s.limit {
		delete(s.held, handle)
		s.forget()
		return 0, api.ErrFull
	}
	s.given = handle
	return handle, api.OK
}

// forget leaves the table just the nodes of what is held.
func (s *Store) forget() {
	kept := nodes.Set{}
	for _, f := range s.held {
		s.table.Gather(f, kept)
	}
	s.table.Keep(kept)
}

// combine is Apply, of functions: what is one of its kinds.
func combine(t *nodes.Table, what int, f, g nodes.Function) nodes.Function {
	switch what {
	case api.And:
		return t.Choose(f, g, nodes.False)
	case api.Or:
		return t.Choose(f, nodes.True, g)
	case api.Xor:
		return t.Choose(f, t.Not(g), g)
	default:
		return t.Choose(f, g, nodes.True)
	}
}
