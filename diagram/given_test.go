package diagram_test

import (
	"math"
	"slices"
	"testing"

	"diagram/api"
	"diagram/diagram"
)

// number: what a call must have told.
func number(t *testing.T, what string, want int) func(int, api.Errno) {
	return func(got int, e api.Errno) {
		t.Helper()
		if got != want || e != api.OK {
			t.Errorf("%s = %d, error %d, want %d", what, got, e, want)
		}
	}
}

// least: the assignment that a call must have told, or nil.
func least(t *testing.T, want []bool) func([]bool, api.Errno) {
	return func(got []bool, e api.Errno) {
		t.Helper()
		if !slices.Equal(got, want) || (got == nil) != (want == nil) || e != api.OK {
			t.Errorf("%v, error %d, want %v", got, e, want)
		}
	}
}

func TestExampleOfP6AndP7(t *testing.T) {
	s := example(t)
	least(t, []bool{false, false, true})(s.Least(5))
	number(t, "Size(5)", 3)(s.Size(5))
	handle(t, 6)(s.Exists(5, []int{2}))
	number(t, "Count(6)", 8)(s.Count(6))
	handle(t, 7)(s.Restrict(5, 2, false))
	if same, e := s.Same(4, 7); !same || e != api.OK {
		t.Errorf("Same(4, 7) = %v, %d", same, e)
	}
}

// held holds the function with these values, and lets go what it is made of.
func held(t *testing.T, s *diagram.Store, m *model, values string) int {
	t.Helper()
	var build func(i int, values string) int
	build = func(i int, values string) int {
		if len(values) == 1 {
			f, _ := alike(t, s, m, step{which: constant, value: values == "1"})
			return f
		}
		low, high := build(i+1, values[:len(values)/2]), build(i+1, values[len(values)/2:])
		x, _ := alike(t, s, m, step{which: variable, variables: []int{i}})
		f, _ := alike(t, s, m, step{which: choose, f: x, g: high, h: low})
		for _, part := range []int{low, high, x} {
			alike(t, s, m, step{which: release, f: part})
		}
		return f
	}
	f := build(0, values)
	if m.held[f] != values {
		t.Fatalf("the values %s were too much to be held", values)
	}
	return f
}

// TestP6P7AllOfThree: each call, of all functions of three variables, with all variables.
func TestP6P7AllOfThree(t *testing.T) {
	for digits := range 256 {
		s, m := store(t, 3, 100), newModel(3, 100)
		f := held(t, s, m, m.table(func(number int) bool { return digits>>number&1 == 1 }))
		for i := range 3 {
			alike(t, s, m, step{which: restrict, f: f, variables: []int{i}})
			alike(t, s, m, step{which: restrict, f: f, variables: []int{i}, value: true})
			for j := range 3 {
				alike(t, s, m, step{which: swap, f: f, variables: []int{i, j}})
			}
		}
		for _, variables := range [][]int{nil, {}, {0}, {1}, {2}, {0, 1}, {2, 0}, {1, 2}, {2, 1, 0}, {1, 1}, {0, 2, 0, 0}, {1, 0, 2, 1, 0}} {
			alike(t, s, m, step{which: exists, f: f, variables: append([]int{0, 0}, variables...)})
		}
		m.agree(t, s)
	}
}

func TestP6ExistsOfNone(t *testing.T) {
	s := example(t)
	handle(t, 6)(s.Exists(5, nil))
	handle(t, 7)(s.Exists(5, []int{}))
	for f := 6; f <= 7; f++ {
		if same, e := s.Same(5, f); !same || e != api.OK {
			t.Errorf("Same(5, %d) = %v, %d", f, same, e)
		}
	}
}

func TestP6ExistsOfVeryMany(t *testing.T) {
	s := example(t)
	many := make([]int, 1000000)
	for k := range many {
		many[k] = k % 2
	}
	handle(t, 6)(s.Exists(4, many))
	number(t, "Count(6)", 8)(s.Count(6))
	many[len(many)-1] = 3
	refused(t, api.ErrVariable)(s.Exists(4, many))
}

func TestP6NoHandle(t *testing.T) {
	s := example(t)
	if e := s.Release(2); e != api.OK {
		t.Fatalf("Release(2): %d", e)
	}
	for _, f := range append(notHandles(5), 2) {
		for _, i := range []int{0, -1, 3, math.MaxInt} {
			refused(t, api.ErrHandle)(s.Restrict(f, i, true))
			refused(t, api.ErrHandle)(s.Exists(f, []int{1, i}))
			refused(t, api.ErrHandle)(s.Swap(f, i, 0))
			refused(t, api.ErrHandle)(s.Swap(f, 0, i))
		}
		refused(t, api.ErrHandle)(s.Exists(f, nil))
	}
	handle(t, 6)(s.Variable(0))
}

func TestP6NoVariable(t *testing.T) {
	for variables := 1; variables <= api.MaxVariables; variables++ {
		s := store(t, variables, 100)
		handle(t, 1)(s.Variable(0))
		handle(t, 2)(s.Constant(true))
		for _, i := range []int{-1, variables, math.MaxInt, math.MinInt} {
			for f := 1; f <= 2; f++ {
				refused(t, api.ErrVariable)(s.Restrict(f, i, true))
				refused(t, api.ErrVariable)(s.Restrict(f, i, false))
				refused(t, api.ErrVariable)(s.Exists(f, []int{i}))
				refused(t, api.ErrVariable)(s.Exists(f, []int{i, 0}))
				refused(t, api.ErrVariable)(s.Exists(f, []int{0, 0, i}))
				refused(t, api.ErrVariable)(s.Swap(f, i, 0))
				refused(t, api.ErrVariable)(s.Swap(f, 0, i))
				refused(t, api.ErrVariable)(s.Swap(f, i, i))
			}
		}
		last := variables - 1
		handle(t, 3)(s.Restrict(1, last, true))
		handle(t, 4)(s.Exists(1, []int{last}))
		handle(t, 5)(s.Swap(1, last, last))
	}
}

// TestP6TooMany: sixty functions are held; the errors that are named ahead of that go ahead of it, that of nodes behind it.
func TestP6TooMany(t *testing.T) {
	s := store(t, 2, 1)
	handle(t, 1)(s.Variable(0))
	for h := 2; h <= api.MaxHandles; h++ {
		handle(t, h)(s.Constant(true))
	}
	refused(t, api.ErrLimit)(s.Restrict(1, 0, true))
	refused(t, api.ErrLimit)(s.Exists(1, []int{0}))
	refused(t, api.ErrLimit)(s.Swap(1, 0, 1))
	refused(t, api.ErrVariable)(s.Restrict(1, 2, true))
	refused(t, api.ErrVariable)(s.Exists(1, []int{0, 2}))
	refused(t, api.ErrVariable)(s.Swap(1, 0, 2))
	refused(t, api.ErrHandle)(s.Restrict(61, 2, true))
	refused(t, api.ErrHandle)(s.Exists(61, []int{2}))
	refused(t, api.ErrHandle)(s.Swap(61, 2, 2))
	if e := s.Release(60); e != api.OK {
		t.Fatalf("Release(60): %d", e)
	}
	refused(t, api.ErrFull)(s.Swap(1, 0, 1))
	handle(t, 61)(s.Swap(1, 0, 0))
	refused(t, api.ErrLimit)(s.Exists(1, nil))
}

// TestP6Full: the limit is of what is held and the new one together, and of nothing else.
func TestP6Full(t *testing.T) {
	s := store(t, 3, 3)
	handle(t, 1)(s.Variable(1))
	handle(t, 2)(s.Variable(2))
	handle(t, 3)(s.Apply(api.And, 1, 2)) // with x1 and x2 three nodes
	for _, swapped := range [][2]int{{0, 1}, {1, 0}, {0, 2}, {2, 0}} {
		refused(t, api.ErrFull)(s.Swap(3, swapped[0], swapped[1]))
		if n := s.Nodes(); n != 3 {
			t.Errorf("Nodes() = %d behind a refusal, want 3", n)
		}
	}
	// On the way to these are nodes of what is not held: they must not count.
	handle(t, 4)(s.Swap(3, 1, 2))
	handle(t, 5)(s.Swap(1, 1, 2))
	handle(t, 6)(s.Restrict(3, 1, true))
	handle(t, 7)(s.Restrict(3, 2, false))
	handle(t, 8)(s.Exists(3, []int{1}))
	handle(t, 9)(s.Exists(3, []int{2}))
	if n := s.Nodes(); n != 3 {
		t.Errorf("Nodes() = %d, want 3", n)
	}
}

// TestP6FullOfNewNodes: what comes of a function may have nodes that it has not.
func TestP6FullOfNewNodes(t *testing.T) {
	s := store(t, 3, 4)
	handle(t, 1)(s.Variable(0))
	handle(t, 2)(s.Variable(2))
	handle(t, 3)(s.Variable(1))
	handle(t, 4)(s.Choose(1, 2, 3)) // x2 where x0, else x1: one node besides x0, x1, x2
	refused(t, api.ErrFull)(s.Exists(4, []int{0}))
	refused(t, api.ErrFull)(s.Restrict(4, 1, true))
	handle(t, 5)(s.Restrict(4, 0, true))
	if e := s.Release(1); e != api.OK {
		t.Fatalf("Release(1): %d", e)
	}
	handle(t, 6)(s.Exists(4, []int{0}))
}

func TestP7NoHandle(t *testing.T) {
	s := example(t)
	if e := s.Release(5); e != api.OK {
		t.Fatalf("Release(5): %d", e)
	}
	for _, f := range append(notHandles(5), 5) {
		if values, e := s.Least(f); values != nil || e != api.ErrHandle {
			t.Errorf("Least(%d) = %v, %d", f, values, e)
		}
		refused(t, api.ErrHandle)(s.Size(f))
	}
}

// TestP7Least: x0 counts most, and what a function does not hang on is false.
func TestP7Least(t *testing.T) {
	s := store(t, 8, 100)
	for i := range 8 {
		handle(t, i+1)(s.Variable(i))
		want := make([]bool, 8)
		want[i] = true
		least(t, want)(s.Least(i + 1))
	}
	handle(t, 9)(s.Apply(api.Or, 1, 8))
	least(t, []bool{false, false, false, false, false, false, false, true})(s.Least(9))
	handle(t, 10)(s.Apply(api.And, 2, 7))
	least(t, []bool{false, true, false, false, false, false, true, false})(s.Least(10))
	handle(t, 11)(s.Apply(api.Or, 1, 10))
	least(t, []bool{false, true, false, false, false, false, true, false})(s.Least(11))
	handle(t, 12)(s.Constant(true))
	least(t, make([]bool, 8))(s.Least(12))
	handle(t, 13)(s.Not(12))
	least(t, nil)(s.Least(13))
	handle(t, 14)(s.Apply(api.Xor, 11, 11))
	least(t, nil)(s.Least(14))
}

// TestP7Size: of the function alone, whatever else is held, and with what it shares.
func TestP7Size(t *testing.T) {
	s := example(t)
	handle(t, 6)(s.Constant(false))
	handle(t, 7)(s.Constant(true))
	handle(t, 8)(s.Variable(0))
	handle(t, 9)(s.Apply(api.Xor, 5, 2))
	for f, want := range []int{1: 1, 2: 1, 3: 1, 4: 2, 5: 3, 6: 0, 7: 0, 8: 1, 9: 5} {
		if f > 0 {
			number(t, "Size", want)(s.Size(f))
		}
	}
	for _, f := range []int{1, 2, 3, 4, 9} {
		if e := s.Release(f); e != api.OK {
			t.Fatalf("Release(%d): %d", f, e)
		}
	}
	number(t, "Size(5)", 3)(s.Size(5))
}

// TestP2LeastIsNew: what comes out is the caller's, with its spare room.
func TestP2LeastIsNew(t *testing.T) {
	s := example(t)
	one, _ := s.Least(4)
	other, _ := s.Least(4)
	for _, values := range [][]bool{one, other} {
		if !slices.Equal(values, []bool{true, true, false}) {
			t.Fatalf("Least(4) = %v", values)
		}
		room := values[:cap(values)]
		for i := range room {
			room[i] = !room[i]
		}
	}
	if !slices.Equal(one, other) {
		t.Errorf("%v and %v share something", one, other)
	}
	least(t, []bool{true, true, false})(s.Least(4))
}

// TestP2VariablesStay: neither what is handed in nor its spare room is written into, and none of it is kept.
func TestP2VariablesStay(t *testing.T) {
	s := example(t)
	room := []int{2, 0, 2, 1, 0, -5, 9}
	was := slices.Clone(room)
	for n := range room {
		if f, e := s.Exists(5, room[:n]); e == api.OK {
			s.Release(f)
		}
	}
	if !slices.Equal(room, was) {
		t.Errorf("what was handed in became %v", room)
	}
	given := []int{0}
	f, _ := s.Exists(4, given)
	given[0] = 1
	if same, e := s.Same(f, 2); !same || e != api.OK {
		t.Errorf("Same = %v, %d, when the list was changed", same, e)
	}
}
