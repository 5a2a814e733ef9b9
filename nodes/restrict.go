package nodes

// restriction is work of Restrict: what it came to is found by it.
type restriction struct {
	f     Function
	level int
	value bool
}

// Restrict gives f with the variable at that level given a value.
func (t *Table) Restrict(f Function, level int, value bool) Function {
	return t.restrict(restriction{f, level, value}, map[restriction]Function{})
}

func (t *Table) restrict(r restriction, done map[restriction]Function) Function {
	if t.level(r.f) > r.level {
		return r.f
	}
	n := t.nodes[r.f]
	switch {
	case n.level == r.level && r.value:
		return n.high
	case n.level == r.level:
		return n.low
	}
	if known, ok := done[r]; ok {
		return known
	}
	low, high := r, r
	low.f, high.f = n.low, n.high
	made := t.join(node{n.level, t.restrict(low, done), t.restrict(high, done)})
	done[r] = made
	return made
}

// Exists gives the function that is true where f is with some values at the levels that are free (one entry for each level).
func (t *Table) Exists(f Function, free []bool) Function {
	return t.exists(f, free, map[Function]Function{False: False, True: True})
}

func (t *Table) exists(f Function, free []bool, done map[Function]Function) Function {
	if known, ok := done[f]; ok {
		return known
	}
	n := t.nodes[f]
	low, high := t.exists(n.low, free, done), t.exists(n.high, free, done)
	if free[n.level] {
		done[f] = t.Choose(low, True, high)
	} else {
		done[f] = t.join(node{n.level, low, high})
	}
	return done[f]
}

// Swap gives f with the variables at two levels, which may be the same, in each other's place.
func (t *Table) Swap(f Function, one, other int) Function {
	x, y := t.Variable(one), t.Variable(other)
	low, high := t.Restrict(f, one, false), t.Restrict(f, one, true)
	return t.Choose(x,
		t.Choose(y, t.Restrict(high, other, true), t.Restrict(low, other, true)),
		t.Choose(y, t.Restrict(high, other, false), t.Restrict(low, other, false)))
}
