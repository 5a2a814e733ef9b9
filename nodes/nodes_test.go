package nodes

import "testing"

// whole: both maps of a table tell of the same nodes, none of which asks in vain or leads to one that is gone.
func whole(t *testing.T, table *Table) {
	t.Helper()
	if len(table.names) != len(table.nodes) {
		t.Fatalf("%d names of %d nodes", len(table.names), len(table.nodes))
	}
	for n, f := range table.names {
		if table.nodes[f] != n {
			t.Fatalf("node %d is %v, not %v", f, table.nodes[f], n)
		}
		if n.low == n.high {
			t.Fatalf("node %d asks in vain: %v", f, n)
		}
		for _, part := range []Function{n.low, n.high} {
			if _, ok := table.nodes[part]; !ok && part != False && part != True {
				t.Fatalf("node %d leads to %d, which is gone", f, part)
			}
			if table.level(part) <= n.level {
				t.Fatalf("node %d at level %d leads to level %d", f, n.level, table.level(part))
			}
		}
	}
}

func TestEqualPartsAreThereOnce(t *testing.T) {
	table := NewTable()
	x, y := table.Variable(0), table.Variable(1)
	if table.Variable(0) != x || table.Len() != 2 {
		t.Errorf("x0 twice has %d nodes with x1, want 2", table.Len())
	}
	and := table.Choose(x, y, False)
	if other := table.Choose(y, x, False); other != and {
		t.Errorf("x0 and x1 is %d, x1 and x0 is %d", and, other)
	}
	if table.Len() != 3 {
		t.Errorf("%d nodes, want 3", table.Len())
	}
	whole(t, table)
}

func TestConstantsHaveNoNodes(t *testing.T) {
	table := NewTable()
	for _, c := range []struct{ f, g, h, want Function }{
		{True, False, True, False}, {False, False, True, True}, {True, True, True, True}, {False, False, False, False},
	} {
		if got := table.Choose(c.f, c.g, c.h); got != c.want {
			t.Errorf("Choose(%d, %d, %d) = %d, want %d", c.f, c.g, c.h, got, c.want)
		}
	}
	if table.Len() != 0 {
		t.Errorf("%d nodes, want none", table.Len())
	}
}

func TestNotOfNot(t *testing.T) {
	table := NewTable()
	f := table.Choose(table.Variable(2), table.Variable(4), table.Variable(3))
	if g := table.Not(table.Not(f)); g != f {
		t.Errorf("not not %d is %d", f, g)
	}
	if table.Not(f) == f {
		t.Errorf("not %d is the same", f)
	}
	whole(t, table)
}

func TestCountOverLevelsThatAreNotAsked(t *testing.T) {
	table := NewTable()
	f := table.Choose(table.Variable(1), table.Variable(4), False)
	for _, c := range []struct {
		f            Function
		levels, want int
	}{{f, 5, 8}, {f, 11, 512}, {table.Not(f), 5, 24}, {table.Variable(0), 1, 1}, {True, 8, 256}, {False, 8, 0}} {
		if got := table.Count(c.f, c.levels); got != c.want {
			t.Errorf("Count(%d, %d) = %d, want %d", c.f, c.levels, got, c.want)
		}
	}
}

// TestLeastByWeights: in whichever order of levels the weights stand.
func TestLeastByWeights(t *testing.T) {
	table := NewTable()
	x, y, z := table.Variable(0), table.Variable(1), table.Variable(2)
	or := table.Choose(x, True, table.Choose(y, z, False)) // x, or y and z
	size := table.Len()
	for _, c := range []struct {
		f       Function
		weights []int
		want    int
	}{
		{or, []int{4, 2, 1}, 3}, {or, []int{1, 2, 4}, 1}, {or, []int{2, 4, 1}, 2}, {or, []int{4, 1, 2}, 3},
		{True, []int{4, 2, 1}, 0}, {z, []int{4, 2, 1}, 1}, {z, []int{1, 2, 4}, 4},
	} {
		if got, ok := table.Least(c.f, c.weights); got != c.want || !ok {
			t.Errorf("Least(%d, %v) = %d, %v, want %d", c.f, c.weights, got, ok, c.want)
		}
	}
	if got, ok := table.Least(False, []int{4, 2, 1}); got != 0 || ok {
		t.Errorf("Least of False = %d, %v", got, ok)
	}
	if table.Len() != size {
		t.Errorf("%d nodes, were %d", table.Len(), size)
	}
}

func TestKeepForgetsTheOthers(t *testing.T) {
	table := NewTable()
	x, y, z := table.Variable(0), table.Variable(1), table.Variable(2)
	xor := table.Choose(y, table.Not(z), z)
	table.Choose(x, xor, z)
	kept := Set{}
	table.Gather(xor, kept)
	table.Gather(True, kept)
	if len(kept) != 3 {
		t.Errorf("%d nodes gathered, want 3", len(kept))
	}
	table.Keep(kept)
	whole(t, table)
	if table.Len() != 3 {
		t.Errorf("%d nodes kept, want 3", table.Len())
	}
	if again := table.Choose(table.Variable(2), table.Not(table.Variable(1)), table.Variable(1)); again != xor {
		t.Errorf("x1 xor x2 is %d, was %d", again, xor)
	}
	table.Keep(Set{})
	whole(t, table)
	if table.Len() != 0 {
		t.Errorf("%d nodes, want none", table.Len())
	}
}
