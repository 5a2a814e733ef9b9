package nodes

import "testing"

// parts: x2, x4 and x7 of a table, and the function that is x4 where x2, and not x7 elsewhere.
func parts() (table *Table, x, y, z, f Function) {
	table = NewTable()
	x, y, z = table.Variable(2), table.Variable(4), table.Variable(7)
	return table, x, y, z, table.Choose(x, y, table.Not(z))
}

func TestRestrict(t *testing.T) {
	table, x, y, z, f := parts()
	for _, c := range []struct {
		level int
		value bool
		want  Function
	}{
		{2, true, y}, {2, false, table.Not(z)},
		{4, true, table.Choose(x, True, table.Not(z))}, {4, false, table.Choose(x, False, table.Not(z))},
		{7, true, table.Choose(x, y, False)}, {7, false, table.Choose(x, y, True)},
		{0, true, f}, {3, false, f}, {5, true, f}, {11, false, f},
	} {
		if got := table.Restrict(f, c.level, c.value); got != c.want {
			t.Errorf("Restrict(f, %d, %v) = %d, want %d", c.level, c.value, got, c.want)
		}
	}
	for _, constant := range []Function{False, True} {
		if got := table.Restrict(constant, 0, true); got != constant {
			t.Errorf("Restrict(%d, 0, true) = %d", constant, got)
		}
	}
	whole(t, table)
}

func TestExists(t *testing.T) {
	table, x, y, z, f := parts()
	for _, c := range []struct {
		levels []int
		want   Function
	}{
		{nil, f}, {[]int{0, 3, 6}, f},
		{[]int{2}, table.Choose(y, True, table.Not(z))},
		{[]int{4}, table.Choose(x, True, table.Not(z))},
		{[]int{7}, table.Choose(x, y, True)},
		{[]int{2, 7}, True}, {[]int{4, 7}, True}, {[]int{2, 4}, True},
	} {
		free := make([]bool, 8)
		for _, level := range c.levels {
			free[level] = true
		}
		if got := table.Exists(f, free); got != c.want {
			t.Errorf("Exists(f, %v) = %d, want %d", c.levels, got, c.want)
		}
		if got := table.Exists(False, free); got != False {
			t.Errorf("Exists(False, %v) = %d", c.levels, got)
		}
	}
	whole(t, table)
}

func TestSwap(t *testing.T) {
	table, x, y, z, f := parts()
	for _, c := range []struct {
		one, other int
		want       Function
	}{
		{2, 4, table.Choose(y, x, table.Not(z))},
		{2, 7, table.Choose(z, y, table.Not(x))},
		{4, 7, table.Choose(x, z, table.Not(y))},
		{2, 0, table.Choose(table.Variable(0), y, table.Not(z))},
		{5, 7, table.Choose(x, y, table.Not(table.Variable(5)))},
		{2, 2, f}, {4, 4, f}, {3, 3, f}, {0, 11, f},
	} {
		if got := table.Swap(f, c.one, c.other); got != c.want {
			t.Errorf("Swap(f, %d, %d) = %d, want %d", c.one, c.other, got, c.want)
		}
		if got := table.Swap(f, c.other, c.one); got != c.want {
			t.Errorf("Swap(f, %d, %d) = %d, want %d", c.other, c.one, got, c.want)
		}
	}
	whole(t, table)
}
