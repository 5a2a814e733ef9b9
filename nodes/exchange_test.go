package nodes

import "testing"

// exchanged gives values with those at a level and at the next in each other's place.
func exchanged(values []bool, level int) []bool {
	other := append([]bool(nil), values...)
	other[level], other[level+1] = other[level+1], other[level]
	return other
}

// TestExchange: of all functions of three variables at once, which are all the same with other levels.
func TestExchange(t *testing.T) {
	for level := range 2 {
		table := NewTable()
		var functions []Function
		for digits := range 256 {
			functions = append(functions, build(table, 0, digits))
		}
		size := table.Len()
		table.Exchange(level)
		whole(t, table)
		if table.Len() != size {
			t.Errorf("level %d: %d nodes, were %d", level, table.Len(), size)
		}
		for digits, f := range functions {
			for number := range 8 {
				values := []bool{number&4 > 0, number&2 > 0, number&1 > 0}
				if got, want := table.Value(f, exchanged(values, level)), digits>>number&1 == 1; got != want {
					t.Fatalf("level %d: function %d has the value %v at %v, want %v", level, digits, got, values, want)
				}
			}
		}
	}
}

// build makes the function of three variables that has the value of a binary digit at the number of the assignment.
func build(table *Table, level, digits int) Function {
	if level == 3 {
		return Function(digits & 1)
	}
	half := 4 >> level
	return table.Choose(table.Variable(level), build(table, level+1, digits>>half), build(table, level+1, digits))
}

// TestExchangeShares: what the exchange makes and what was there already are there once.
func TestExchangeShares(t *testing.T) {
	table := NewTable()
	x, y, z := table.Variable(0), table.Variable(1), table.Variable(2)
	f := table.Choose(x, y, z)
	g := table.Choose(x, z, False)
	table.Exchange(0)
	whole(t, table)
	for _, c := range []struct{ got, want Function }{
		{table.Variable(1), x}, {table.Variable(0), y}, {table.Variable(2), z},
		{table.Choose(x, y, z), f}, {table.Choose(z, x, False), g},
	} {
		if c.got != c.want {
			t.Errorf("%d, was %d", c.got, c.want)
		}
	}
}

// TestExchangeTwice: there are the nodes that were there first.
func TestExchangeTwice(t *testing.T) {
	for digits := range 256 {
		table := NewTable()
		f := build(table, 0, digits)
		keep := func() {
			set := Set{}
			table.Gather(f, set)
			table.Keep(set)
		}
		keep()
		size := table.Len()
		for _, level := range []int{0, 0, 1, 1, 0, 1, 0, 1, 0, 1} { // from right to left all three are turned twice
			table.Exchange(level)
			keep()
			whole(t, table)
		}
		if table.Len() != size || build(table, 0, digits) != f {
			t.Fatalf("function %d: %d nodes, were %d", digits, table.Len(), size)
		}
	}
}

// TestExchangeOfNone: levels at which nothing is asked.
func TestExchangeOfNone(t *testing.T) {
	table := NewTable()
	table.Exchange(0)
	x := table.Variable(3)
	table.Exchange(0)
	table.Exchange(4)
	if table.Variable(3) != x {
		t.Errorf("x3 is %d, was %d", table.Variable(3), x)
	}
	table.Exchange(3)
	table.Exchange(4)
	whole(t, table)
	if table.Variable(5) != x || table.Len() != 1 {
		t.Errorf("x5 is %d, was %d; %d nodes", table.Variable(5), x, table.Len())
	}
}
