package judge_test

import (
	"fmt"
	"slices"
	"testing"

	"skein/api"
	"skein/cell"
	"skein/judge"
)

// Deeds, by their names, with what they answered.
func load(a, n int) api.Deed     { return api.Deed{Kind: 1, A: a, N: n} }
func store(a, v int) api.Deed    { return api.Deed{Kind: 2, A: a, B: v} }
func add(a, v, n int) api.Deed   { return api.Deed{Kind: 3, A: a, B: v, N: n} }
func swap(a, v, n int) api.Deed  { return api.Deed{Kind: 4, A: a, B: v, N: n} }
func most(a, v, n int) api.Deed  { return api.Deed{Kind: 6, A: a, B: v, N: n} }
func least(a, v, n int) api.Deed { return api.Deed{Kind: 7, A: a, B: v, N: n} }

func cas(a, old, v int, ok bool) api.Deed {
	return api.Deed{Kind: 5, A: a, B: old, C: v, Ok: ok}
}

// at gives a deed its times.
func at(begin, end int, d api.Deed) api.Deed {
	d.Begin, d.End = begin, end
	return d
}

// open: a deed that hasn't ended.
func open(begin int, d api.Deed) api.Deed { return at(begin, 0, d) }

// inRow: deeds of which each one was ahead of the next one.
func inRow(deeds ...api.Deed) []api.Deed {
	var l []api.Deed
	for i, d := range deeds {
		l = append(l, at(i+1, i+1, d))
	}
	return l
}

// atOnce: deeds that all have the same times.
func atOnce(begin, end int, deeds ...api.Deed) []api.Deed {
	var l []api.Deed
	for _, d := range deeds {
		l = append(l, at(begin, end, d))
	}
	return l
}

// upTo: 0 to n - 1.
func upTo(n int) []int {
	var l []int
	for i := range n {
		l = append(l, i)
	}
	return l
}

// takesLong is for a test that asks much, one behind the other: where the race detector looks on, it would find no more than the others do.
func takesLong(t *testing.T) {
	t.Helper()
	if testing.Short() {
		t.Skip("it takes long")
	}
}

func wantOrder(t *testing.T, promise string, first []int, l []api.Deed, want ...int) {
	t.Helper()
	order, ok, err := judge.Order(first, l)
	if !slices.Equal(order, want) || !ok || err != 0 {
		t.Errorf("%s: Order(%v, %+v): %v, %v, %d, want %v", promise, first, l, order, ok, err, want)
	}
}

func wantNone(t *testing.T, promise string, first []int, l []api.Deed) {
	t.Helper()
	order, ok, err := judge.Order(first, l)
	if len(order) != 0 || ok || err != 0 {
		t.Errorf("%s: Order(%v, %+v): %v, %v, %d, want none", promise, first, l, order, ok, err)
	}
}

func wantRefused(t *testing.T, promise string, first []int, l []api.Deed, want api.Errno) {
	t.Helper()
	order, ok, err := judge.Order(first, l)
	if len(order) != 0 || ok || err != want {
		t.Errorf("%s: Order of %d cells, %+v: %v, %v, %d, want error %d", promise, len(first), l, order, ok, err, want)
	}
}

// wasAhead: x was ahead of y.
func wasAhead(x, y api.Deed) bool { return x.End != 0 && x.End < y.Begin }

// cells makes cells that hold so much.
func cells(first []int) *cell.Cells {
	c, _ := cell.New(len(first))
	for i, v := range first {
		c.Store(nil, i, v)
	}
	return c
}

// doneBy does a deed alone, by layer 4: what it answers.
func doneBy(c *cell.Cells, d api.Deed) (n int, ok bool) {
	switch d.Kind {
	case 1:
		n, _ = c.Load(nil, d.A)
	case 2:
		c.Store(nil, d.A, d.B)
	case 3:
		n, _ = c.Add(nil, d.A, d.B)
	case 4:
		n, _ = c.Swap(nil, d.A, d.B)
	case 5:
		ok, _ = c.Cas(nil, d.A, d.B, d.C)
	case 6:
		n, _ = c.Most(nil, d.A, d.B)
	case 7:
		n, _ = c.Least(nil, d.A, d.B)
	}
	return n, ok
}

// isOrder tells whether a list is an order, by the words of P20.2.
func isOrder(first []int, l []api.Deed, order []int) bool {
	stands := make([]bool, len(l))
	for k, i := range order {
		if i < 0 || i >= len(l) || stands[i] {
			return false
		}
		stands[i] = true
		for _, j := range order[:k] {
			if wasAhead(l[i], l[j]) {
				return false
			}
		}
	}
	for i, d := range l {
		if d.End != 0 && !stands[i] {
			return false
		}
	}
	c := cells(first)
	for _, i := range order {
		n, ok := doneBy(c, l[i])
		if l[i].End != 0 && (n != l[i].N || ok != l[i].Ok) {
			return false
		}
	}
	return true
}

// lists calls f with every list of places below n, none twice, of any length.
func lists(n int, f func(list []int)) {
	var list []int
	var more func(left []int)
	more = func(left []int) {
		f(list)
		for k, i := range left {
			list = append(list, i)
			more(slices.Delete(slices.Clone(left), k, k+1))
			list = list[:len(list)-1]
		}
	}
	more(upTo(n))
}

// listsBelow: of each number up to 6 all lists of places below it.
func listsBelow() [7][][]int {
	var all [7][][]int
	for n := range all {
		lists(n, func(list []int) { all[n] = append(all[n], slices.Clone(list)) })
	}
	return all
}

// plainOrder finds the least order among all lists, by the words of P20.2.
func plainOrder(first []int, l []api.Deed, all [7][][]int) ([]int, bool) {
	var orders [][]int
	for _, list := range all[len(l)] {
		if isOrder(first, l, list) {
			orders = append(orders, list)
		}
	}
	if len(orders) == 0 {
		return nil, false
	}
	var order []int
	for !hasAllEnded(l, order) {
		order = append(order, leastNext(orders, order))
	}
	return order, true
}

// hasAllEnded tells whether all deeds that have ended stand in a list.
func hasAllEnded(l []api.Deed, list []int) bool {
	for i, d := range l {
		if d.End != 0 && !slices.Contains(list, i) {
			return false
		}
	}
	return true
}

// leastNext: the least place by which one of the orders goes on behind what is there.
func leastNext(orders [][]int, list []int) int {
	next := -1
	for _, o := range orders {
		if len(o) > len(list) && slices.Equal(o[:len(list)], list) && (next < 0 || o[len(list)] < next) {
			next = o[len(list)]
		}
	}
	return next
}

// broad: a search over all cells at once, which keeps what it tried: slower than Order by far, but for more deeds than all lists can be made of.
type broad struct {
	l     []api.Deed
	tried map[string]bool
}

// after: what a number is behind a deed alone, and whether an ended one answered that.
func after(d api.Deed, x int) (int, bool) {
	c := cells([]int{x})
	d.A = 0
	n, ok := doneBy(c, d)
	return c.Values()[0], d.End == 0 || n == d.N && ok == d.Ok
}

// goesOn tells whether, when some are done, the next one may be i.
func (b *broad) goesOn(done uint64, i int) bool {
	if done>>i&1 == 1 {
		return false
	}
	for j, d := range b.l {
		if done>>j&1 == 0 && wasAhead(d, b.l[i]) {
			return false
		}
	}
	return true
}

func (b *broad) hasAllEnded(done uint64) bool {
	for i, d := range b.l {
		if d.End != 0 && done>>i&1 == 0 {
			return false
		}
	}
	return true
}

// can tells whether the rest can be done.
func (b *broad) can(done uint64, held []int) bool {
	if b.hasAllEnded(done) {
		return true
	}
	key := fmt.Sprint(done, held)
	if can, known := b.tried[key]; known {
		return can
	}
	b.tried[key] = b.next(done, held) >= 0
	return b.tried[key]
}

// next: the least place with which it can be gone on; -1: none.
func (b *broad) next(done uint64, held []int) int {
	for i, d := range b.l {
		if !b.goesOn(done, i) {
			continue
		}
		more := slices.Clone(held)
		x, fits := after(d, more[d.A])
		more[d.A] = x
		if fits && b.can(done|1<<i, more) {
			return i
		}
	}
	return -1
}

// broadOrder finds the least order by the broad search.
func broadOrder(first []int, l []api.Deed) ([]int, bool) {
	b := &broad{l: l, tried: map[string]bool{}}
	var order []int
	held, done := slices.Clone(first), uint64(0)
	for !b.hasAllEnded(done) {
		i := b.next(done, held)
		if i < 0 {
			return nil, false
		}
		held[l[i].A], _ = after(l[i], held[l[i].A])
		done |= 1 << i
		order = append(order, i)
	}
	return order, true
}

// mixer: numbers that look mixed and are the same each time.
type mixer uint64

func (m *mixer) below(n int) int {
	*m += 0x9E3779B97F4A7C15
	z := uint64(*m)
	z = (z ^ z>>30) * 0xBF58476D1CE4E5B9
	z = (z ^ z>>27) * 0x94D049BB133111EB
	return int((z ^ z>>31) % uint64(n))
}

func (m *mixer) one(list ...int) int { return list[m.below(len(list))] }

func (m *mixer) maybe() bool { return m.below(2) == 0 }

// shuffle lays a list in another order.
func shuffle[T any](m *mixer, l []T) {
	for i := range l {
		j := m.below(i + 1)
		l[i], l[j] = l[j], l[i]
	}
}
