package judge_test

import (
	"slices"
	"sync"
	"testing"

	"skein/api"
	"skein/judge"
)

// spans: the times of deeds up to a last time; open ones, too.
func spans(last int) []api.Deed {
	var l []api.Deed
	for begin := 1; begin <= last; begin++ {
		l = append(l, api.Deed{Begin: begin})
		for end := begin; end <= last; end++ {
			l = append(l, api.Deed{Begin: begin, End: end})
		}
	}
	return l
}

// answered: deeds of each kind, with answers that fit in some order, and such that don't.
func answered(a int) []api.Deed {
	return []api.Deed{
		load(a, 0), load(a, 1), load(a, 2),
		store(a, 1), {Kind: 2, A: a, B: 1, N: 1}, {Kind: 2, A: a, B: 2, Ok: true},
		add(a, 1, 1), add(a, 1, 2),
		swap(a, 2, 0), swap(a, 2, 1),
		cas(a, 0, 1, true), cas(a, 0, 1, false), cas(a, 1, 2, true),
		most(a, 1, 1), most(a, 1, 2),
		least(a, 1, 0), least(a, 1, 1),
	}
}

// timed: each deed at each time.
func timed(deeds, spans []api.Deed) []api.Deed {
	var l []api.Deed
	for _, d := range deeds {
		for _, s := range spans {
			l = append(l, at(s.Begin, s.End, d))
		}
	}
	return l
}

func wantPlain(t *testing.T, first []int, l []api.Deed, all [7][][]int) {
	t.Helper()
	want, can := plainOrder(first, l, all)
	order, ok, err := judge.Order(first, l)
	if err != 0 || ok != can || !slices.Equal(order, want) {
		t.Errorf("P20.2: Order(%v, %+v): %v, %v, %d, want %v, %v", first, l, order, ok, err, want, can)
	}
}

// P20.2: every history of one deed, and of two deeds of two cells: what a plain search over all orders finds.
func TestEveryHistoryOfTwo(t *testing.T) {
	takesLong(t)
	all := listsBelow()
	deeds := timed(append(answered(0), answered(1)...), spans(3))
	for _, a := range deeds {
		wantPlain(t, []int{0, 1}, []api.Deed{a}, all)
		for _, b := range deeds {
			wantPlain(t, []int{0, 1}, []api.Deed{a, b}, all)
			if t.Failed() {
				return
			}
		}
	}
}

// P20.2: every history of three deeds of one cell.
func TestEveryHistoryOfThree(t *testing.T) {
	takesLong(t)
	deeds := timed(answered(0), spans(2))
	all := listsBelow()
	var done sync.WaitGroup
	for _, a := range deeds {
		done.Go(func() {
			for _, b := range deeds {
				for _, c := range deeds {
					wantPlain(t, []int{0}, []api.Deed{a, b, c}, all)
				}
				if t.Failed() {
					return
				}
			}
		})
	}
	done.Wait()
}

// deed makes a deed of one of so many cells; what it answers isn't told yet.
func (m *mixer) deed(cells int) api.Deed {
	d := api.Deed{Kind: 1 + m.below(7), A: m.below(cells), B: m.below(4) - 1, C: m.below(4) - 1}
	d.Begin = 1 + m.below(6)
	if m.below(4) > 0 {
		d.End = d.Begin + m.below(4)
	}
	return d
}

// told makes a history of so many deeds, of which an order can be found (done in some order that their times allow), or that is spoilt.
func (m *mixer) told(n, count, last int) ([]int, []api.Deed) {
	var first []int
	for range n {
		first = append(first, m.below(3)-1)
	}
	var l []api.Deed
	c := cells(first)
	for k := range count {
		d := m.deed(n)
		moment := k*last/count + 1
		d.Begin = max(1, moment-m.below(4))
		if d.End != 0 {
			d.End = moment + m.below(4)
			d.N, d.Ok = doneBy(c, d)
		} else if m.maybe() {
			doneBy(c, d)
		}
		l = append(l, d)
	}
	shuffle(m, l)
	if m.maybe() && count > 0 {
		m.spoil(l)
	}
	return first, l
}

// spoil changes what a deed told.
func (m *mixer) spoil(l []api.Deed) {
	d := &l[m.below(len(l))]
	switch m.below(4) {
	case 0:
		d.N += m.one(-1, 1, 2)
	case 1:
		d.Ok = !d.Ok
	case 2:
		d.B++
	case 3:
		d.N, d.Ok = 0, false
	}
}

// P20.2: mixed histories of some deeds: what a plain search over all orders finds.
func TestMixedHistoriesAgainstAllOrders(t *testing.T) {
	takesLong(t)
	const count = 30000
	all := listsBelow()
	var m mixer = 20
	found := map[bool]int{}
	for range count {
		first, l := m.told(1+m.below(2), 1+m.below(6), 6)
		if m.below(4) == 0 {
			for i := range l {
				l[i] = m.deed(len(first))
			}
		}
		wantPlain(t, first, l, all)
		_, ok, _ := judge.Order(first, l)
		found[ok]++
		if t.Failed() {
			return
		}
	}
	if found[true] < count/10 || found[false] < count/10 {
		t.Errorf("too few histories with an order, or without: %v", found)
	}
}

// P20.2: histories of more deeds: what a search over all cells at once finds.
func TestMixedHistoriesAgainstBroadSearch(t *testing.T) {
	takesLong(t)
	const count = 6000
	var m mixer = 2
	found := map[bool]int{}
	open := 0
	for range count {
		deeds := 7 + m.below(18)
		first, l := m.told(1+m.below(3), deeds, deeds)
		order, ok, err := judge.Order(first, l)
		if err == 201 {
			continue
		}
		want, can := broadOrder(first, l)
		if err != 0 || ok != can || !slices.Equal(order, want) {
			t.Fatalf("P20.2: Order(%v, %+v): %v, %v, %d, want %v, %v", first, l, order, ok, err, want, can)
		}
		found[ok]++
		for _, i := range order {
			if l[i].End == 0 {
				open++
			}
		}
	}
	if found[true] < count/10 || found[false] < count/10 || open < count/10 {
		t.Errorf("too few histories with an order, without one, or with open ones in it: %v, %d", found, open)
	}
}
