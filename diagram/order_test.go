package diagram_test

import (
	"fmt"
	"math"
	"math/rand"
	"slices"
	"testing"

	"diagram/api"
	"diagram/diagram"
)

// errno: the error that a call must have answered.
func errno(t *testing.T, what string, got, want api.Errno) {
	t.Helper()
	if got != want {
		t.Errorf("%s: error %d, want %d", what, got, want)
	}
}

// inOrder: the order that a store must have.
func inOrder(t *testing.T, s *diagram.Store, want ...int) {
	t.Helper()
	if got := s.Order(); !slices.Equal(got, want) {
		t.Errorf("Order() = %v, want %v", got, want)
	}
}

// orders are all of so many variables.
func orders(variables int) [][]int {
	all := [][]int{{}}
	for i := range variables {
		var longer [][]int
		for _, order := range all {
			for place := range i + 1 {
				longer = append(longer, slices.Insert(slices.Clone(order), place, i))
			}
		}
		all = longer
	}
	return all
}

// pairs: of 2k variables x0 xk, or x1 x(k+1), and so on: two nodes for each pair where its variables stand side by side, else more.
func pairs(t *testing.T, s *diagram.Store, m *model) int {
	t.Helper()
	k := m.variables / 2
	return held(t, s, m, m.table(func(number int) bool { return number>>k&number&(1<<k-1) != 0 }))
}

func TestP8Order(t *testing.T) {
	for variables := 1; variables <= api.MaxVariables; variables++ {
		s := store(t, variables, 100)
		inOrder(t, s, firstOrder(variables)...)
	}
	s := example(t)
	errno(t, "Reorder", s.Reorder([]int{2, 0, 1}), api.OK)
	inOrder(t, s, 2, 0, 1)
	if n := s.Nodes(); n != 5 { // x2; x2, or x0 and x1; x0; x0 and x1; x1
		t.Errorf("Nodes() = %d, want 5", n)
	}
	number(t, "Size(5)", 3)(s.Size(5))
	number(t, "Count(5)", 5)(s.Count(5))
	least(t, []bool{false, false, true})(s.Least(5))
	handle(t, 6)(s.Variable(2))
	if same, e := s.Same(3, 6); !same || e != api.OK {
		t.Errorf("Same(3, 6) = %v, %d", same, e)
	}
}

// notOrders are lists that are none of so many variables.
func notOrders(variables int) [][]int {
	first := firstOrder(variables)
	lists := [][]int{nil, {}, first[1:], first[:variables-1], append(firstOrder(variables), variables), append(firstOrder(variables), 0), make([]int, 1000000)}
	for place := range variables {
		for _, i := range []int{-1, variables, math.MaxInt, math.MinInt, (place + 1) % variables} {
			list := firstOrder(variables)
			list[place] = i
			if !slices.Equal(list, first) { // of one variable none can be there twice
				lists = append(lists, list)
			}
		}
	}
	return lists
}

func TestP8NoOrder(t *testing.T) {
	for variables := 1; variables <= api.MaxVariables; variables++ {
		s, m := store(t, variables, 200), newModel(variables, 200)
		held(t, s, m, m.table(func(number int) bool { return number%3 == 0 }))
		order := slices.Clone(m.order)
		slices.Reverse(order)
		alike(t, s, m, step{which: reorder, order: order})
		for _, list := range notOrders(variables) {
			errno(t, fmt.Sprint("Reorder to ", len(list), " places"), s.Reorder(list), api.ErrOrder)
			inOrder(t, s, order...)
		}
		m.agree(t, s)
	}
}

// TestP8Full: as many nodes as the limit are none too many, and one more leaves all as it was.
func TestP8Full(t *testing.T) {
	together := []int{0, 3, 1, 4, 2, 5}
	for limit := 12; limit <= 15; limit++ {
		s, m := store(t, 6, limit), newModel(6, limit)
		alike(t, s, m, step{which: reorder, order: together})
		pairs(t, s, m)
		if n := s.Nodes(); n != 6 {
			t.Fatalf("Nodes() = %d, want 6", n)
		}
		want := api.OK
		if limit < 14 {
			want = api.ErrFull
		}
		_, e := alike(t, s, m, step{which: reorder, order: firstOrder(6)})
		errno(t, "Reorder", e, want)
		m.agree(t, s)
		errno(t, "Reorder to a wrong order", s.Reorder([]int{0, 1, 2, 3, 4, 4}), api.ErrOrder)
		errno(t, "Reorder back", s.Reorder(together), api.OK)
	}
}

// TestP8LimitInOrder: whether a new function is too much hangs on the order of the store.
func TestP8LimitInOrder(t *testing.T) {
	for _, c := range []struct {
		order []int
		want  api.Errno
	}{{[]int{0, 1, 2, 3}, api.ErrFull}, {[]int{0, 2, 1, 3}, api.OK}, {[]int{3, 1, 2, 0}, api.OK}, {[]int{1, 0, 3, 2}, api.ErrFull}} {
		s, m := store(t, 4, 8), newModel(4, 8)
		alike(t, s, m, step{which: reorder, order: c.order})
		for i := range 4 {
			alike(t, s, m, step{which: variable, variables: []int{i}})
		}
		alike(t, s, m, step{which: apply, what: api.And, f: 1, g: 3})
		alike(t, s, m, step{which: apply, what: api.And, f: 2, g: 4})
		_, e := alike(t, s, m, step{which: apply, what: api.Or, f: 5, g: 6})
		errno(t, "Apply", e, c.want)
		m.agree(t, s)
	}
}

// TestP8HoldsNothing: each order will do, also where there is room for no node.
func TestP8HoldsNothing(t *testing.T) {
	for variables := 1; variables <= 5; variables++ {
		for _, order := range orders(variables) {
			s, m := store(t, variables, 0), newModel(variables, 0)
			alike(t, s, m, step{which: sift})
			alike(t, s, m, step{which: reorder, order: order})
			inOrder(t, s, order...)
			m.agree(t, s)
			alike(t, s, m, step{which: sift})
			alike(t, s, m, step{which: constant, value: true})
			alike(t, s, m, step{which: reorder, order: order})
			alike(t, s, m, step{which: sift})
			m.agree(t, s)
		}
	}
}

// eachCall makes each call of a store with three variables, of one function.
func eachCall(t *testing.T, s *diagram.Store, m *model, f int) {
	t.Helper()
	for i := range 3 {
		alike(t, s, m, step{which: variable, variables: []int{i}})
		x := m.given
		for what := api.And; what <= api.Implies; what++ {
			alike(t, s, m, step{which: apply, what: what, f: f, g: x})
		}
		alike(t, s, m, step{which: choose, f: x, g: m.given, h: f})
		alike(t, s, m, step{which: restrict, f: f, variables: []int{i}})
		alike(t, s, m, step{which: restrict, f: f, variables: []int{i}, value: true})
		alike(t, s, m, step{which: exists, f: f, variables: []int{0, 0, i}})
		alike(t, s, m, step{which: exists, f: f, variables: []int{0, 0, i, (i + 1) % 3, i}})
		alike(t, s, m, step{which: swap, f: f, variables: []int{i, (i + 1) % 3}})
	}
	alike(t, s, m, step{which: constant, value: true})
	alike(t, s, m, step{which: not, f: f})
	m.agree(t, s)
}

// TestP8EachCallInEachOrder: of all functions of three variables, made ahead of a Reorder or behind it, and behind a Sift.
func TestP8EachCallInEachOrder(t *testing.T) {
	for digits := range 256 {
		for k, order := range orders(3) {
			s, m := store(t, 3, 100), newModel(3, 100)
			if digits%2 == k%2 {
				alike(t, s, m, step{which: reorder, order: order})
			}
			f := held(t, s, m, m.table(func(number int) bool { return digits>>number&1 == 1 }))
			alike(t, s, m, step{which: reorder, order: order})
			m.agree(t, s)
			if k%3 == 2 {
				alike(t, s, m, step{which: sift})
				m.agree(t, s)
			}
			eachCall(t, s, m, f)
		}
	}
}

// TestP8AllOrdersOfFour: of functions held together, from each order to each other.
func TestP8AllOrdersOfFour(t *testing.T) {
	r := rand.New(rand.NewSource(4))
	s, m := store(t, 4, 100), newModel(4, 100)
	held(t, s, m, "0110100110010111")
	held(t, s, m, "0001011100101101")
	for _, from := range orders(4) {
		for _, to := range orders(4) {
			alike(t, s, m, step{which: reorder, order: from})
			alike(t, s, m, step{which: reorder, order: to})
			if got, want := s.Nodes(), m.nodes(); got != want {
				t.Fatalf("Nodes() in %v = %d, want %d", to, got, want)
			}
		}
		m.agreeOn(t, s, 1+r.Intn(m.given))
	}
	m.agree(t, s)
}

// TestP8Sift: behind it no single variable, moved, makes the nodes less; alike holds that against the model.
func TestP8Sift(t *testing.T) {
	for variables := 1; variables <= api.MaxVariables; variables++ {
		for seed := range 12 {
			r := rand.New(rand.NewSource(int64(100*variables + seed)))
			s, m := store(t, variables, api.MaxLimit), newModel(variables, api.MaxLimit)
			for i := range variables {
				alike(t, s, m, step{which: variable, variables: []int{i}})
			}
			for range 4 + 4*seed {
				if _, e := alike(t, s, m, step{which: apply, what: r.Intn(3), f: drawnHeld(r, m), g: drawnHeld(r, m)}); e == api.ErrLimit {
					break
				}
			}
			alike(t, s, m, step{which: reorder, order: r.Perm(variables)})
			alike(t, s, m, step{which: sift})
			m.agree(t, s)
			found := s.Nodes()
			s.Sift()
			if n := s.Nodes(); n != found {
				t.Errorf("another Sift came from %d nodes to %d", found, n)
			}
		}
	}
}

func TestP8SiftOfPairs(t *testing.T) {
	for _, variables := range []int{4, 6, 8} {
		s, m := store(t, variables, api.MaxLimit), newModel(variables, api.MaxLimit)
		f := pairs(t, s, m)
		most := s.Nodes()
		alike(t, s, m, step{which: sift})
		m.agree(t, s)
		if n := s.Nodes(); n >= most {
			t.Errorf("%d variables: %d nodes behind a Sift, %d ahead", variables, n, most)
		}
		alike(t, s, m, step{which: swap, f: f, variables: []int{0, variables - 1}})
		alike(t, s, m, step{which: sift})
		m.agree(t, s)
	}
}

// TestP8SiftWithoutRoom: the nodes are as many as the limit, and in orders on the way more.
func TestP8SiftWithoutRoom(t *testing.T) {
	s, m := store(t, 4, 6), newModel(4, 6)
	alike(t, s, m, step{which: reorder, order: []int{0, 2, 1, 3}})
	pairs(t, s, m)
	alike(t, s, m, step{which: reorder, order: []int{0, 1, 2, 3}})
	if n := s.Nodes(); n != 6 {
		t.Fatalf("Nodes() = %d, want 6", n)
	}
	alike(t, s, m, step{which: sift})
	if n := s.Nodes(); n != 4 {
		t.Errorf("Nodes() = %d behind a Sift, want 4", n)
	}
	m.agree(t, s)
}

// TestP2OrderIsNew: what comes out is the caller's, with its spare room.
func TestP2OrderIsNew(t *testing.T) {
	s := example(t)
	errno(t, "Reorder", s.Reorder([]int{1, 2, 0}), api.OK)
	one, other := s.Order(), s.Order()
	for _, order := range [][]int{one, other} {
		if !slices.Equal(order, []int{1, 2, 0}) {
			t.Fatalf("Order() = %v", order)
		}
		room := order[:cap(order)]
		for k := range room {
			room[k] -= 9
		}
	}
	if !slices.Equal(one, other) {
		t.Errorf("%v and %v share something", one, other)
	}
	inOrder(t, s, 1, 2, 0)
	s.Sift()
	least(t, []bool{false, false, true})(s.Least(5))
}

// TestP2OrderStays: neither what is handed in nor its spare room is written into, and none of it is kept.
func TestP2OrderStays(t *testing.T) {
	s := example(t)
	room := []int{2, 0, 1, 2, 0, 7, -1}
	was := slices.Clone(room)
	for n := range room {
		for from := range n {
			s.Reorder(room[from:n])
			s.Sift()
		}
	}
	given := room[:3]
	errno(t, "Reorder", s.Reorder(given), api.OK)
	s.Sift()
	s.Order()
	errno(t, "Reorder", s.Reorder([]int{0, 1, 2}), api.OK)
	errno(t, "Reorder", s.Reorder(given), api.OK)
	if !slices.Equal(room, was) {
		t.Errorf("what was handed in became %v", room)
	}
	clear(room)
	inOrder(t, s, 2, 0, 1)
	least(t, []bool{true, true, false})(s.Least(4))
}

// TestP2SiftHangsOnNothingElse: of stores with which the same calls were made, one is asked much besides, one is refused much, and all find the same order.
func TestP2SiftHangsOnNothingElse(t *testing.T) {
	for seed := range 40 {
		r := rand.New(rand.NewSource(int64(seed)))
		m := newModel(6, 300)
		asked, refusing := store(t, 6, 300), store(t, 6, 300)
		others := []*diagram.Store{refusing, store(t, 6, 300), store(t, 6, 300), store(t, 6, 300)}
		for range 60 {
			x := drawn(r, m)
			if x.which == sift {
				m.agree(t, asked)
			}
			alike(t, asked, m, x)
			for _, s := range others {
				x.do(s)
			}
			refusing.Reorder([]int{5, 4, 3, 2, 1, 1})
			refusing.Variable(6)
			refusing.Not(0)
		}
		m.agree(t, asked)
		alike(t, asked, m, step{which: sift})
		for _, s := range others {
			s.Sift()
			inOrder(t, s, m.order...)
		}
	}
}

// TestP10: the same just if the values are; no order and no release of others changes a value.
func TestP10(t *testing.T) {
	for seed := range 10 {
		r := rand.New(rand.NewSource(int64(seed)))
		variables := 2 + seed%3
		s, m := store(t, variables, api.MaxLimit), newModel(variables, api.MaxLimit)
		for i := range variables {
			alike(t, s, m, step{which: variable, variables: []int{i}})
		}
		for len(m.held) < api.MaxHandles { // of so few variables many are the same
			x := drawn(r, m)
			if x.which != release && x.which != sift {
				alike(t, s, m, x)
			}
		}
		m.agree(t, s)
		for len(m.held) > 0 {
			alike(t, s, m, step{which: reorder, order: r.Perm(variables)})
			m.agree(t, s)
			alike(t, s, m, step{which: release, f: drawnHeld(r, m)})
			m.agree(t, s)
			if r.Intn(4) == 0 {
				alike(t, s, m, step{which: sift})
				m.agree(t, s)
			}
		}
	}
}
