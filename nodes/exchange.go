package nodes

// Exchange puts the variable at a level and that at the next one in each other's place. Functions keep their names.
func (t *Table) Exchange(level int) {
	upper, lower := t.take(level), t.take(level+1)
	for f, n := range lower {
		t.put(f, node{level, n.low, n.high})
	}
	var crossing []Function
	// All that only sink must be there ahead of the crossing ones, which may share them.
sinking:
	for f, n := range upper {
		for _, part := range [...]Function{n.low, n.high} {
			if t.level(part) == level {
				crossing = append(crossing, f)
				continue sinking
			}
		}
		t.put(f, node{level + 1, n.low, n.high})
	}
	for _, f := range crossing {
		t.put(f, t.cross(level, upper[f]))
	}
}

// take takes the nodes at a level out of those that are found, to be put in again.
func (t *Table) take(level int) map[Function]node {
	taken := map[Function]node{}
	for n, f := range t.names {
		if n.level == level {
			taken[f] = n
			delete(t.names, n)
		}
	}
	return taken
}

// cross gives the node that asks first what n, which was at that level, asked second: that is at the level now.
func (t *Table) cross(level int, n node) node {
	neither, second := t.branches(n.low, level)
	first, both := t.branches(n.high, level)
	return node{level, t.join(node{level + 1, neither, first}), t.join(node{level + 1, second, both})}
}
