package diagram

import "slices"

// isOrder tells whether a list has all variables, each once.
func (s *Store) isOrder(list []int) bool {
	if len(list) != len(s.order) {
		return false
	}
	for _, i := range s.order {
		if !slices.Contains(list, i) {
			return false
		}
	}
	return true
}

// place tells where a variable stands in the order: that is its level in the table.
func (s *Store) place(i int) int { return slices.Index(s.order, i) }

// arrange gives the store an order, whatever the limit.
func (s *Store) arrange(order []int) {
	for place, i := range order {
		s.move(i, place)
	}
}

// move brings a variable to another place; those between make room.
func (s *Store) move(i, to int) {
	for s.place(i) > to {
		s.exchange(s.place(i) - 1)
	}
	for s.place(i) < to {
		s.exchange(s.place(i))
	}
}

// exchange puts the variables at a place and at the next one in each other's place.
func (s *Store) exchange(place int) {
	s.table.Exchange(place)
	s.order[place], s.order[place+1] = s.order[place+1], s.order[place]
	s.forget()
}

// settle moves a variable to where there are fewest nodes, and tells whether they are fewer than they were.
func (s *Store) settle(i int) bool {
	before, best := s.table.Len(), s.place(i)
	fewest := before
	for place := range s.order {
		s.move(i, place)
		if now := s.table.Len(); now < fewest {
			fewest, best = now, place
		}
	}
	s.move(i, best)
	return fewest < before
}
