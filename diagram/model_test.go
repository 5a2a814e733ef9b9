package diagram_test

import (
	"maps"
	"slices"
	"strings"
	"testing"

	"diagram/api"
	"diagram/diagram"
)

// model is a store by the words of the document: functions as lists of values, by the numbers of assignments.
type model struct {
	variables, limit, given int
	order                   []int
	held                    map[int]string
}

func newModel(variables, limit int) *model {
	return &model{variables: variables, limit: limit, order: firstOrder(variables), held: map[int]string{}}
}

// firstOrder is x0, x1 and so on.
func firstOrder(variables int) []int {
	order := make([]int, variables)
	for i := range order {
		order[i] = i
	}
	return order
}

// table makes a list of values of what a function is at the number of an assignment.
func (m *model) table(value func(number int) bool) string {
	values := make([]byte, 1<<m.variables)
	for number := range values {
		values[number] = '0'
		if value(number) {
			values[number] = '1'
		}
	}
	return string(values)
}

// assignment is the one with that number.
func assignment(variables, number int) []bool {
	values := make([]bool, variables)
	for i := range values {
		values[i] = number>>(variables-1-i)&1 == 1
	}
	return values
}

// numberOf is the number of an assignment.
func numberOf(values []bool) int {
	number := 0
	for _, value := range values {
		number *= 2
		if value {
			number++
		}
	}
	return number
}

// with tells what is wrong with a handle and some variables.
func (m *model) with(f int, variables ...int) api.Errno {
	if !m.has(f) {
		return api.ErrHandle
	}
	for _, i := range variables {
		if i < 0 || i >= m.variables {
			return api.ErrVariable
		}
	}
	return api.OK
}

// has tells whether these are held.
func (m *model) has(handles ...int) bool {
	for _, handle := range handles {
		if _, ok := m.held[handle]; !ok {
			return false
		}
	}
	return true
}

// nodes counts the nodes of what is held and of some others together.
func (m *model) nodes(others ...string) int { return m.nodesIn(m.order, others...) }

// nodesIn counts them in any order.
func (m *model) nodesIn(order []int, others ...string) int {
	return size(order, slices.AppendSeq(slices.Clone(others), maps.Values(m.held))...)
}

// size counts the nodes of some functions together in an order, as section 'Words' says.
func size(order []int, tables ...string) int {
	type place struct {
		level int
		part  string
	}
	found := map[place]bool{}
	numbers := numbersBy(order)
	for _, table := range tables {
		values := make([]byte, len(table))
		for k, number := range numbers {
			values[k] = table[number]
		}
		turned := string(values)
		for level := range order {
			width := len(turned) >> level
			for from := 0; from < len(turned); from += width {
				part := turned[from : from+width]
				if part[:width/2] != part[width/2:] {
					found[place{level, part}] = true
				}
			}
		}
	}
	return len(found)
}

// numbersBy gives the numbers of all assignments, as they come when values are counted through by an order, not by x0, x1 ..
func numbersBy(order []int) []int {
	numbers := make([]int, 1<<len(order))
	for k := range numbers {
		values := make([]bool, len(order))
		for place, value := range assignment(len(order), k) {
			values[order[place]] = value
		}
		numbers[k] = numberOf(values)
	}
	return numbers
}

func (m *model) hold(table string) (int, api.Errno) {
	if len(m.held) >= api.MaxHandles {
		return 0, api.ErrLimit
	}
	if m.nodes(table) > m.limit {
		return 0, api.ErrFull
	}
	m.given++
	m.held[m.given] = table
	return m.given, api.OK
}

func (m *model) Constant(value bool) (int, api.Errno) {
	return m.hold(m.table(func(int) bool { return value }))
}

func (m *model) Variable(i int) (int, api.Errno) {
	if i < 0 || i >= m.variables {
		return 0, api.ErrVariable
	}
	return m.hold(m.table(func(number int) bool { return assignment(m.variables, number)[i] }))
}

func (m *model) Not(f int) (int, api.Errno) {
	if !m.has(f) {
		return 0, api.ErrHandle
	}
	return m.hold(m.table(func(number int) bool { return m.held[f][number] == '0' }))
}

func (m *model) Apply(what, f, g int) (int, api.Errno) {
	if !m.has(f, g) {
		return 0, api.ErrHandle
	}
	if what < 0 || what > 3 {
		return 0, api.ErrRange
	}
	return m.hold(m.table(func(number int) bool {
		a, b := m.held[f][number] == '1', m.held[g][number] == '1'
		return [4]bool{a && b, a || b, a != b, !a || b}[what]
	}))
}

func (m *model) Choose(f, g, h int) (int, api.Errno) {
	if !m.has(f, g, h) {
		return 0, api.ErrHandle
	}
	return m.hold(m.table(func(number int) bool {
		if m.held[f][number] == '1' {
			return m.held[g][number] == '1'
		}
		return m.held[h][number] == '1'
	}))
}

func (m *model) Restrict(f, i int, value bool) (int, api.Errno) {
	if e := m.with(f, i); e != api.OK {
		return 0, e
	}
	return m.hold(m.table(func(number int) bool {
		values := assignment(m.variables, number)
		values[i] = value
		return m.held[f][numberOf(values)] == '1'
	}))
}

func (m *model) Exists(f int, variables []int) (int, api.Errno) {
	if e := m.with(f, variables...); e != api.OK {
		return 0, e
	}
	free := 0
	for _, i := range variables {
		free |= 1 << (m.variables - 1 - i)
	}
	return m.hold(m.table(func(number int) bool {
		for other, value := range m.held[f] {
			if value == '1' && other&^free == number&^free {
				return true
			}
		}
		return false
	}))
}

func (m *model) Swap(f, i, j int) (int, api.Errno) {
	if e := m.with(f, i, j); e != api.OK {
		return 0, e
	}
	return m.hold(m.table(func(number int) bool {
		values := assignment(m.variables, number)
		values[i], values[j] = values[j], values[i]
		return m.held[f][numberOf(values)] == '1'
	}))
}

func (m *model) Release(f int) api.Errno {
	if !m.has(f) {
		return api.ErrHandle
	}
	delete(m.held, f)
	return api.OK
}

// isOrder tells whether a list has all variables, each once.
func (m *model) isOrder(list []int) bool {
	return slices.Equal(slices.Sorted(slices.Values(list)), firstOrder(m.variables))
}

func (m *model) Reorder(order []int) api.Errno {
	if !m.isOrder(order) {
		return api.ErrOrder
	}
	if m.nodesIn(order) > m.limit {
		return api.ErrFull
	}
	m.order = slices.Clone(order)
	return api.OK
}

// Sift leaves it to the store which order there is then: see follow.
func (m *model) Sift() {}

// follow takes over the order that a store found by a Sift, if it may be that one.
func (m *model) follow(t *testing.T, s *diagram.Store) {
	t.Helper()
	order := s.Order()
	if !m.isOrder(order) {
		t.Fatalf("behind a Sift Order() = %v", order)
	}
	nodes := m.nodesIn(order)
	if was := m.nodes(); nodes > was {
		t.Fatalf("behind a Sift %v has %d nodes, ahead of it %v had %d", order, nodes, m.order, was)
	}
	for from := range order {
		for to := range order {
			other := moved(order, from, to)
			if n := m.nodesIn(other); n < nodes {
				t.Fatalf("behind a Sift %v has %d nodes, but %v has %d", order, nodes, other, n)
			}
		}
	}
	m.order = order
}

// moved is an order with the variable of one place brought to another.
func moved(order []int, from, to int) []int {
	return slices.Insert(slices.Delete(slices.Clone(order), from, from+1), to, order[from])
}

// agree holds all that can be asked of a store against the model.
func (m *model) agree(t *testing.T, s *diagram.Store) {
	t.Helper()
	if got := s.Order(); !slices.Equal(got, m.order) {
		t.Fatalf("Order() = %v, want %v", got, m.order)
	}
	if got, want := s.Nodes(), m.nodes(); got != want {
		t.Fatalf("Nodes() = %d, want %d", got, want)
	}
	for f := -1; f <= m.given+1; f++ {
		m.agreeOn(t, s, f)
	}
}

// agreeOn holds what can be asked of one handle against the model.
func (m *model) agreeOn(t *testing.T, s *diagram.Store, f int) {
	t.Helper()
	table, held := m.held[f]
	wantError := api.OK
	if !held {
		wantError = api.ErrHandle
	}
	wantCount := 0
	for number := range 1 << m.variables {
		want := held && table[number] == '1'
		if want {
			wantCount++
		}
		if got, e := s.Value(f, assignment(m.variables, number)); got != want || e != wantError {
			t.Fatalf("Value(%d, of number %d) = %v, %d, want %v, %d", f, number, got, e, want, wantError)
		}
	}
	if got, e := s.Count(f); got != wantCount || e != wantError {
		t.Fatalf("Count(%d) = %d, %d, want %d, %d", f, got, e, wantCount, wantError)
	}
	m.agreeOnLeastAndSize(t, s, f)
	for g := range m.held {
		want := held && table == m.held[g]
		if got, e := s.Same(f, g); got != want || e != wantError {
			t.Fatalf("Same(%d, %d) = %v, %d, want %v, %d", f, g, got, e, want, wantError)
		}
		if got, e := s.Same(g, f); got != want || e != wantError {
			t.Fatalf("Same(%d, %d) = %v, %d, want %v, %d", g, f, got, e, want, wantError)
		}
	}
}

// agreeOnLeastAndSize holds those of one handle against the model.
func (m *model) agreeOnLeastAndSize(t *testing.T, s *diagram.Store, f int) {
	t.Helper()
	var least []bool
	wantSize, wantError := 0, api.ErrHandle
	if table, held := m.held[f]; held {
		wantSize, wantError = size(m.order, table), api.OK
		if number := strings.IndexByte(table, '1'); number >= 0 {
			least = assignment(m.variables, number)
		}
	}
	if got, e := s.Least(f); !slices.Equal(got, least) || (got == nil) != (least == nil) || e != wantError {
		t.Fatalf("Least(%d) = %v, %d, want %v, %d", f, got, e, least, wantError)
	}
	if got, e := s.Size(f); got != wantSize || e != wantError {
		t.Fatalf("Size(%d) = %d, %d, want %d, %d", f, got, e, wantSize, wantError)
	}
}
