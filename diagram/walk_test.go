package diagram_test

import (
	"maps"
	"math"
	"math/rand"
	"slices"
	"testing"

	"diagram/api"
	"diagram/diagram"
)

// calls are those that change a store, or its model.
type calls interface {
	Constant(value bool) (int, api.Errno)
	Variable(i int) (int, api.Errno)
	Not(f int) (int, api.Errno)
	Apply(what, f, g int) (int, api.Errno)
	Choose(f, g, h int) (int, api.Errno)
	Restrict(f, i int, value bool) (int, api.Errno)
	Exists(f int, variables []int) (int, api.Errno)
	Swap(f, i, j int) (int, api.Errno)
	Release(f int) api.Errno
	Reorder(order []int) api.Errno
	Sift()
}

// The kinds of steps.
const (
	constant = iota
	variable
	not
	apply
	choose
	restrict
	exists
	swap
	release
	reorder
	sift
)

// step is one call of them: which, with which handles, and the other arguments.
type step struct {
	which     int
	f, g, h   int
	what      int
	value     bool
	variables []int
	order     []int
}

func (x step) do(on calls) (int, api.Errno) {
	switch x.which {
	case constant:
		return on.Constant(x.value)
	case variable:
		return on.Variable(x.variables[0])
	case not:
		return on.Not(x.f)
	case apply:
		return on.Apply(x.what, x.f, x.g)
	case choose:
		return on.Choose(x.f, x.g, x.h)
	case restrict:
		return on.Restrict(x.f, x.variables[0], x.value)
	case exists:
		return on.Exists(x.f, x.variables[2:])
	case swap:
		return on.Swap(x.f, x.variables[0], x.variables[1])
	case release:
		return 0, on.Release(x.f)
	case reorder:
		return 0, on.Reorder(x.order)
	default:
		on.Sift()
		return 0, api.OK
	}
}

// drawnKind has those oftener that bring functions which share little, or let them go.
func drawnKind(r *rand.Rand) int {
	if r.Intn(60) == 0 {
		return sift
	}
	kinds := []int{constant, variable, variable, not, apply, apply, apply, choose, choose, restrict, exists, swap, swap, release, release, reorder}
	return kinds[r.Intn(len(kinds))]
}

// drawn is a step that mostly may be done with the model, and sometimes not.
func drawn(r *rand.Rand, m *model) step {
	x := step{
		which: drawnKind(r),
		f:     drawnHandle(r, m),
		g:     drawnHandle(r, m),
		h:     drawnHandle(r, m),
		what:  r.Intn(4),
		value: r.Intn(2) == 0,
		order: r.Perm(m.variables),
	}
	for range 2 + r.Intn(4) {
		x.variables = append(x.variables, r.Intn(m.variables))
	}
	if r.Intn(20) == 0 {
		wrong := []int{-1, math.MaxInt, math.MinInt}[r.Intn(3)]
		x.what = []int{wrong, 4}[r.Intn(2)]
		x.variables[r.Intn(len(x.variables))] = []int{wrong, m.variables}[r.Intn(2)]
		x.order[r.Intn(len(x.order))] = []int{wrong, m.variables}[r.Intn(2)]
	}
	return x
}

// drawnHandle is one that is held, if there is one, or sometimes any up to the next.
func drawnHandle(r *rand.Rand, m *model) int {
	if len(m.held) == 0 || r.Intn(30) == 0 {
		return r.Intn(m.given + 2)
	}
	return drawnHeld(r, m)
}

// drawnHeld is one of those that are held.
func drawnHeld(r *rand.Rand, m *model) int {
	held := slices.Sorted(maps.Keys(m.held))
	return held[r.Intn(len(held))]
}

// alike does a step with a store and its model, and tells what both answer.
func alike(t *testing.T, s *diagram.Store, m *model, x step) (int, api.Errno) {
	t.Helper()
	want, wantError := x.do(m)
	if got, e := x.do(s); got != want || e != wantError {
		t.Fatalf("%d variables, limit %d, %+v: %d, %d, want %d, %d", m.variables, m.limit, x, got, e, want, wantError)
	}
	if x.which == sift {
		m.follow(t, s)
	}
	return want, wantError
}

// TestP4Greatest: the greatest store, filled with functions that share little until its nodes are too many.
func TestP4Greatest(t *testing.T) {
	r := rand.New(rand.NewSource(8))
	s, m := store(t, api.MaxVariables, api.MaxLimit), newModel(api.MaxVariables, api.MaxLimit)
	for i := range m.variables {
		alike(t, s, m, step{which: variable, variables: []int{i}})
	}
	oldest := 1
fill:
	for range 1000 {
		x := step{which: []int{choose, apply}[r.Intn(2)], what: api.Xor, f: drawnHeld(r, m), g: drawnHeld(r, m), h: drawnHeld(r, m)}
		switch _, e := alike(t, s, m, x); e {
		case api.ErrFull:
			break fill
		case api.ErrLimit:
			alike(t, s, m, step{which: release, f: oldest})
			oldest++
		}
	}
	if n := s.Nodes(); n > api.MaxLimit || n < api.MaxLimit-100 {
		t.Errorf("Nodes() = %d, want nearly %d", n, api.MaxLimit)
	}
	m.agree(t, s)
}

// TestP4ToP8Walk: long ways of calls, right and wrong, against the words of the document.
func TestP4ToP8Walk(t *testing.T) {
	errors := map[api.Errno]int{}
	for variables := 1; variables <= api.MaxVariables; variables++ {
		for _, limit := range []int{0, variables, 3 * variables, 60, api.MaxLimit} {
			r := rand.New(rand.NewSource(int64(100*variables + limit)))
			s, m := store(t, variables, limit), newModel(variables, limit)
			for k := range 300 {
				x := drawn(r, m)
				_, e := alike(t, s, m, x)
				errors[e]++
				if got, want := s.Nodes(), m.nodes(); got != want {
					t.Fatalf("%d variables, limit %d, step %d, %+v: Nodes() = %d, want %d", variables, limit, k, x, got, want)
				}
				if k%60 == 59 {
					m.agree(t, s)
				}
			}
		}
	}
	for _, e := range []api.Errno{api.OK, api.ErrRange, api.ErrHandle, api.ErrVariable, api.ErrLimit, api.ErrFull, api.ErrOrder} {
		if errors[e] == 0 {
			t.Errorf("no step came to the error %d", e)
		}
	}
}

// TestP1ErrorsChangeNothing: a store with which wrong calls were made besides answers as one without them.
func TestP1ErrorsChangeNothing(t *testing.T) {
	for _, limit := range []int{4, 12, 100} {
		r := rand.New(rand.NewSource(int64(limit)))
		one, other, m := store(t, 4, limit), store(t, 4, limit), newModel(4, limit)
		for range 600 {
			x := drawn(r, m)
			want, wantError := alike(t, one, m, x)
			if wantError != api.OK {
				continue
			}
			if got, e := x.do(other); got != want || e != api.OK {
				t.Fatalf("%+v without the errors ahead of it: %d, %d, want %d", x, got, e, want)
			}
		}
		m.agree(t, one)
		m.agree(t, other)
	}
}

// TestP2AskingChangesNothing: of two stores one is asked much, and they answer alike.
func TestP2AskingChangesNothing(t *testing.T) {
	for _, limit := range []int{12, 200} {
		r := rand.New(rand.NewSource(int64(limit)))
		asked, other, m := store(t, 4, limit), store(t, 4, limit), newModel(4, limit)
		for range 200 {
			m.agree(t, asked)
			x := drawn(r, m)
			want, wantError := alike(t, asked, m, x)
			if got, e := x.do(other); got != want || e != wantError {
				t.Fatalf("%+v of the one not asked: %d, %d, want %d, %d", x, got, e, want, wantError)
			}
		}
		m.agree(t, other)
	}
}

// TestP2StoresKnowNothing: what is done with one store is not seen in another.
func TestP2StoresKnowNothing(t *testing.T) {
	r := rand.New(rand.NewSource(5))
	var stores []*diagram.Store
	var models []*model
	for variables := 1; variables <= api.MaxVariables; variables++ {
		stores = append(stores, store(t, variables, 50))
		models = append(models, newModel(variables, 50))
	}
	for range 800 {
		k := r.Intn(len(stores))
		alike(t, stores[k], models[k], drawn(r, models[k]))
	}
	for k, s := range stores {
		models[k].agree(t, s)
	}
}

// TestP2AssignmentStays: neither what is handed in nor its spare room is written into, and none of it is kept.
func TestP2AssignmentStays(t *testing.T) {
	s := example(t)
	room := []bool{true, true, false, true, false, true}
	was := slices.Clone(room)
	for n := range room {
		s.Value(5, room[:n])
	}
	if !slices.Equal(room, was) {
		t.Errorf("what was handed in became %v", room)
	}
	given := []bool{true, true, false}
	if value, e := s.Value(5, given); !value || e != api.OK {
		t.Fatalf("Value = %v, %d", value, e)
	}
	given[0] = false
	if value, e := s.Value(5, []bool{true, true, false}); !value || e != api.OK {
		t.Errorf("Value = %v, %d, when an earlier list was changed", value, e)
	}
	if value, e := s.Value(5, given); value || e != api.OK {
		t.Errorf("Value of the changed list = %v, %d", value, e)
	}
}
