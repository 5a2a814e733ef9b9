package diagram_test

import (
	"math"
	"testing"

	"diagram/api"
	"diagram/diagram"
)

// store makes one that must be there.
func store(t *testing.T, variables, limit int) *diagram.Store {
	t.Helper()
	s, e := diagram.New(variables, limit)
	if s == nil || e != api.OK {
		t.Fatalf("New(%d, %d): %v, %d", variables, limit, s, e)
	}
	return s
}

// handle: what a call must have answered.
func handle(t *testing.T, want int) func(int, api.Errno) {
	return func(got int, e api.Errno) {
		t.Helper()
		if got != want || e != api.OK {
			t.Fatalf("the handle %d, error %d, want the handle %d", got, e, want)
		}
	}
}

// refused: what a call must have answered, with an error.
func refused(t *testing.T, want api.Errno) func(int, api.Errno) {
	return func(got int, e api.Errno) {
		t.Helper()
		if got != 0 || e != want {
			t.Errorf("%d, error %d, want 0, error %d", got, e, want)
		}
	}
}

// example makes the store of the document's first example.
func example(t *testing.T) *diagram.Store {
	t.Helper()
	s := store(t, 3, 100)
	handle(t, 1)(s.Variable(0))
	handle(t, 2)(s.Variable(1))
	handle(t, 3)(s.Variable(2))
	handle(t, 4)(s.Apply(api.And, 1, 2))
	handle(t, 5)(s.Apply(api.Or, 4, 3))
	return s
}

// notHandles: numbers that a store with n handles given never gave.
func notHandles(n int) []int { return []int{0, -1, n + 1, math.MaxInt, math.MinInt} }

func TestP3New(t *testing.T) {
	for variables := 1; variables <= api.MaxVariables; variables++ {
		for _, limit := range []int{0, 1, 100, api.MaxLimit} {
			s := store(t, variables, limit)
			newModel(variables, limit).agree(t, s)
			handle(t, 1)(s.Constant(false))
		}
	}
}

func TestP3NewRefuses(t *testing.T) {
	for _, c := range [][2]int{
		{0, 100}, {-1, 100}, {api.MaxVariables + 1, 100}, {math.MaxInt, 100}, {math.MinInt, 100},
		{3, -1}, {3, api.MaxLimit + 1}, {3, math.MaxInt}, {3, math.MinInt}, {0, -1}, {9, 2001},
	} {
		if s, e := diagram.New(c[0], c[1]); s != nil || e != api.ErrRange {
			t.Errorf("New(%d, %d): %v, %d", c[0], c[1], s, e)
		}
	}
}

func TestExample(t *testing.T) {
	s := example(t)
	if n := s.Nodes(); n != 6 {
		t.Errorf("Nodes() = %d, want 6", n)
	}
	if n, e := s.Count(5); n != 5 || e != api.OK {
		t.Errorf("Count(5) = %d, %d, want 5", n, e)
	}
}

// TestP4AllOfTwo: each call, of all functions of two variables.
func TestP4AllOfTwo(t *testing.T) {
	for f := range 16 {
		for g := range 16 {
			s, m := store(t, 2, 100), newModel(2, 100)
			makeOfTwo(t, s, m, f)
			makeOfTwo(t, s, m, g)
			of, with := m.given/2, m.given
			for what := api.And; what <= api.Implies; what++ {
				want, _ := m.Apply(what, of, with)
				handle(t, want)(s.Apply(what, of, with))
			}
			want, _ := m.Not(of)
			handle(t, want)(s.Not(of))
			for h := 1; h <= with; h++ {
				want, _ := m.Choose(of, with, h)
				handle(t, want)(s.Choose(of, with, h))
			}
			m.agree(t, s)
		}
	}
}

// makeOfTwo holds, as the last of some, the function of two variables whose values are the binary digits of a number.
func makeOfTwo(t *testing.T, s *diagram.Store, m *model, digits int) {
	t.Helper()
	first := m.given
	for k := range 4 {
		want, _ := m.Constant(digits>>k&1 == 1)
		handle(t, want)(s.Constant(digits>>k&1 == 1))
	}
	for i := range 2 {
		want, _ := m.Variable(i)
		handle(t, want)(s.Variable(i))
	}
	for _, c := range [3][3]int{{6, 1, 2}, {6, 3, 4}, {5, 7, 8}} {
		want, _ := m.Choose(first+c[0], first+c[1], first+c[2])
		handle(t, want)(s.Choose(first+c[0], first+c[1], first+c[2]))
	}
}

func TestP4NoHandle(t *testing.T) {
	s := example(t)
	if e := s.Release(2); e != api.OK {
		t.Fatalf("Release(2): %d", e)
	}
	for _, f := range append(notHandles(5), 2) {
		refused(t, api.ErrHandle)(s.Not(f))
		refused(t, api.ErrHandle)(s.Apply(api.And, f, 1))
		refused(t, api.ErrHandle)(s.Apply(api.And, 1, f))
		refused(t, api.ErrHandle)(s.Apply(-1, 1, f))
		refused(t, api.ErrHandle)(s.Choose(f, 1, 1))
		refused(t, api.ErrHandle)(s.Choose(1, f, 1))
		refused(t, api.ErrHandle)(s.Choose(1, 1, f))
	}
	handle(t, 6)(s.Variable(0))
}

func TestP4NoVariable(t *testing.T) {
	for variables := 1; variables <= api.MaxVariables; variables++ {
		s := store(t, variables, 100)
		for _, i := range []int{-1, variables, math.MaxInt, math.MinInt} {
			refused(t, api.ErrVariable)(s.Variable(i))
		}
		handle(t, 1)(s.Variable(variables - 1))
	}
}

func TestP4NoKind(t *testing.T) {
	s := example(t)
	for _, what := range []int{-1, 4, math.MaxInt, math.MinInt} {
		refused(t, api.ErrRange)(s.Apply(what, 1, 2))
	}
	handle(t, 6)(s.Variable(0))
}

// TestP4TooMany: sixty functions are held; the errors that are named ahead of that go ahead of it, that of nodes behind it.
func TestP4TooMany(t *testing.T) {
	s := store(t, 2, 1)
	handle(t, 1)(s.Variable(0))
	for h := 2; h <= api.MaxHandles; h++ {
		handle(t, h)(s.Constant(h%2 == 0))
	}
	refused(t, api.ErrLimit)(s.Constant(true))
	refused(t, api.ErrLimit)(s.Variable(1))
	refused(t, api.ErrLimit)(s.Not(1))
	refused(t, api.ErrLimit)(s.Apply(api.Xor, 1, 1))
	refused(t, api.ErrLimit)(s.Choose(1, 2, 3))
	refused(t, api.ErrVariable)(s.Variable(2))
	refused(t, api.ErrHandle)(s.Not(61))
	refused(t, api.ErrHandle)(s.Apply(4, 1, 61))
	refused(t, api.ErrRange)(s.Apply(4, 1, 1))
	refused(t, api.ErrHandle)(s.Choose(1, 1, 61))
	if n := s.Nodes(); n != 1 {
		t.Errorf("Nodes() = %d, want 1", n)
	}
	if e := s.Release(30); e != api.OK {
		t.Fatalf("Release(30): %d", e)
	}
	refused(t, api.ErrFull)(s.Variable(1))
	handle(t, 61)(s.Choose(1, 2, 3))
	refused(t, api.ErrLimit)(s.Constant(true))
}

// TestP4Full: the limit is of what is held and the new one together, and of nothing else.
func TestP4Full(t *testing.T) {
	s := store(t, 2, 3)
	handle(t, 1)(s.Variable(0))
	handle(t, 2)(s.Variable(1))
	refused(t, api.ErrFull)(s.Apply(api.Xor, 1, 2))
	if n := s.Nodes(); n != 2 {
		t.Errorf("Nodes() = %d behind a refusal, want 2", n)
	}
	handle(t, 3)(s.Apply(api.And, 1, 2))
	refused(t, api.ErrFull)(s.Not(1))
	// On the way to these are nodes of what is not held: they must not count.
	handle(t, 4)(s.Apply(api.Xor, 3, 3))
	handle(t, 5)(s.Apply(api.Implies, 3, 1))
	handle(t, 6)(s.Apply(api.And, 2, 1))
	if n := s.Nodes(); n != 3 {
		t.Errorf("Nodes() = %d, want 3", n)
	}
}

func TestP4NoNodesAtAll(t *testing.T) {
	s := store(t, 1, 0)
	handle(t, 1)(s.Constant(true))
	refused(t, api.ErrFull)(s.Variable(0))
	handle(t, 2)(s.Not(1))
	handle(t, 3)(s.Apply(api.Xor, 1, 2))
	handle(t, 4)(s.Choose(3, 2, 1))
	if n := s.Nodes(); n != 0 {
		t.Errorf("Nodes() = %d, want 0", n)
	}
}

func TestP5Release(t *testing.T) {
	s := example(t)
	for _, f := range notHandles(5) {
		if e := s.Release(f); e != api.ErrHandle {
			t.Errorf("Release(%d): %d", f, e)
		}
	}
	// The nodes of 4 and 1 go with them; those of 5 stay, also where 2 and 3 had them too.
	for _, c := range []struct{ f, nodes int }{{4, 5}, {1, 4}, {2, 3}, {3, 3}, {5, 0}} {
		if e := s.Release(c.f); e != api.OK {
			t.Errorf("Release(%d): %d", c.f, e)
		}
		if e := s.Release(c.f); e != api.ErrHandle {
			t.Errorf("Release(%d) again: %d", c.f, e)
		}
		if n := s.Nodes(); n != c.nodes {
			t.Errorf("Nodes() = %d behind Release(%d), want %d", n, c.f, c.nodes)
		}
	}
	handle(t, 6)(s.Constant(true))
}

func TestP5NoHandle(t *testing.T) {
	s := example(t)
	s.Release(5)
	for _, f := range append(notHandles(5), 5) {
		for _, pair := range [][2]int{{f, 1}, {1, f}, {f, f}} {
			if same, e := s.Same(pair[0], pair[1]); same || e != api.ErrHandle {
				t.Errorf("Same(%d, %d) = %v, %d", pair[0], pair[1], same, e)
			}
		}
		for _, values := range [][]bool{nil, {true}, {true, true, true}} {
			if value, e := s.Value(f, values); value || e != api.ErrHandle {
				t.Errorf("Value(%d, %v) = %v, %d", f, values, value, e)
			}
		}
		refused(t, api.ErrHandle)(s.Count(f))
	}
}

func TestP5ValueOfTooFewOrMany(t *testing.T) {
	s := example(t)
	handle(t, 6)(s.Constant(true))
	for _, n := range []int{0, 1, 2, 4, 8, 1000} {
		if value, e := s.Value(6, make([]bool, n)); value || e != api.ErrRange {
			t.Errorf("Value of %d values = %v, %d", n, value, e)
		}
	}
	if value, e := s.Value(6, nil); value || e != api.ErrRange {
		t.Errorf("Value of nil = %v, %d", value, e)
	}
}

// TestP5Same: functions that come about in different ways.
func TestP5Same(t *testing.T) {
	s := example(t)
	handle(t, 6)(s.Apply(api.Or, 1, 3))
	handle(t, 7)(s.Apply(api.Or, 2, 3))
	handle(t, 8)(s.Apply(api.And, 6, 7)) // (x0 or x2) and (x1 or x2) is 5
	handle(t, 9)(s.Not(8))
	handle(t, 10)(s.Apply(api.Xor, 5, 8))
	handle(t, 11)(s.Constant(false))
	for _, c := range []struct {
		f, g int
		want bool
	}{{5, 8, true}, {8, 5, true}, {5, 5, true}, {5, 9, false}, {10, 11, true}, {10, 9, false}, {6, 7, false}} {
		if same, e := s.Same(c.f, c.g); same != c.want || e != api.OK {
			t.Errorf("Same(%d, %d) = %v, %d", c.f, c.g, same, e)
		}
	}
}
