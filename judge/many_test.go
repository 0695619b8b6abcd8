package judge_test

import (
	"slices"
	"testing"

	"skein/api"
	"skein/judge"
)

// P20.2: eight cells, of which each gets its value from one of seven Stores at once: there are 7^8 things that the cells may hold, and an answer comes.
func TestManyCells(t *testing.T) {
	first := make([]int, 9)
	var l []api.Deed
	var want []int
	for a := range 8 {
		for i := range 7 {
			l = append(l, at(2*a+1, 2*a+1, store(a, i)))
		}
		want = append(want, 7*a+1, 7*a+2, 7*a+3, 7*a+4, 7*a+5, 7*a+6, 7*a)
	}
	for a := range 8 {
		l = append(l, at(100, 100, load(a, 0)))
		want = append(want, 56+a)
	}
	wantOrder(t, "P20.2", first, l, want...)
	for a := range 8 {
		bad := slices.Clone(l)
		bad[56+a].N = 7
		wantNone(t, "P20.2", first, bad)
		bad[56+a] = at(100, 100, load(8, 1))
		wantNone(t, "P20.2", first, bad)
	}
}

// P20.2: one cell, eight times eight at once: Stores, then a Load of what isn't there; Adds whose sums come in one order alone, or in none.
func TestManyAtOnce(t *testing.T) {
	takesLong(t)
	var stores, adds []api.Deed
	var backwards []int
	sum := 0
	for group := range 8 {
		for i := range 8 {
			stores = append(stores, at(2*group+1, 2*group+2, store(0, 100*group+i)))
			// The last one of a group comes first.
			adds = append(adds, at(2*group+1, 2*group+2, add(0, 1<<i, sum+256-1<<i)))
			backwards = append(backwards, 8*group+7-i)
		}
		sum += 255
	}
	wantOrder(t, "P20.2", []int{0}, stores, upTo(64)...)
	wantOrder(t, "P20.2", []int{0}, adds, backwards...)
	bad := slices.Clone(adds)
	bad[56].N++
	wantNone(t, "P20.2", []int{0}, bad)
	for i := range 63 {
		bad := slices.Clone(stores)
		bad[63] = at(15, 16, load(0, 100*(i/8)+i%8))
		order, ok, err := judge.Order([]int{0}, bad)
		if err != 0 || ok != (i >= 48) || ok && !isOrder([]int{0}, bad, order) {
			t.Errorf("P20.2: a Load of what Store %d left: %v, %v, %d", i, order, ok, err)
		}
	}
}

// openOnes: seven open deeds of one cell, each sum of some of them another one.
func openOnes(stores, mosts int) []api.Deed {
	var l []api.Deed
	for i := range 7 {
		d := add(0, 1<<(8*i), 0)
		if i < stores {
			d = store(0, 1<<(8*i)+3)
		} else if i < stores+mosts {
			d = most(0, 1<<(8*i)+5, 0)
		}
		l = append(l, open(1, d))
	}
	return l
}

// P20.2: seven open deeds beside a row of 57 that each may come at any moment among them: an answer comes, also where nothing fits.
func TestManyOpenOnes(t *testing.T) {
	takesLong(t)
	for stores := range 6 {
		for mosts := range 6 - stores {
			l := openOnes(stores, mosts)
			for i := range 57 {
				l = append(l, at(i+1, i+1, cas(0, -1, 0, false)))
			}
			order, ok, err := judge.Order([]int{0}, l)
			if err != 0 || !ok || !slices.Equal(order, upTo(64)) {
				t.Errorf("P20.2: %d Stores, %d Mosts open: %v, %v, %d", stores, mosts, order, ok, err)
			}
			l[63] = at(57, 57, load(0, -1))
			wantNone(t, "P20.2", []int{0}, l)
			// All others stand where they stood; what is left out is what the last one asks for.
			l[63] = at(57, 57, load(0, 0))
			wantOrder(t, "P20.2", []int{0}, l, upTo(64)[7:]...)
		}
	}
}

// P20.2: the last one asks for a sum that some of the open ones make.
func TestSumsOfOpenOnes(t *testing.T) {
	takesLong(t)
	for set := range 128 {
		l := openOnes(0, 0)
		sum := 0
		var want []int
		for i := range 7 {
			if set>>i&1 == 1 {
				sum += 1 << (8 * i)
				want = append(want, i)
			}
		}
		for i := range 56 {
			l = append(l, at(i+1, i+1, cas(0, -1, 0, false)))
		}
		l = append(l, at(57, 57, load(0, sum)))
		wantOrder(t, "P20.2", []int{0}, l, append(want, upTo(64)[7:]...)...)
		l[63].N = 1 << 60
		wantNone(t, "P20.2", []int{0}, l)
	}
}

// P20.2: the greatest histories, mixed, of few cells and of many: what is told is an order, and a history that has one isn't told to have none.
func TestGreatestHistories(t *testing.T) {
	takesLong(t)
	const count = 2000
	var m mixer = 64
	for range count {
		first, l, order := m.great()
		if !isOrder(first, l, order) {
			t.Fatalf("no order: %v of %v, %+v", order, first, l)
		}
		told, ok, err := judge.Order(first, l)
		if err != 0 || !ok || !isOrder(first, l, told) || slices.Compare(told, order) > 0 {
			t.Fatalf("P20.2: Order(%v, %+v): %v, %v, %d, but %v is one", first, l, told, ok, err, order)
		}
		m.spoil(l)
		told, ok, err = judge.Order(first, l)
		if err != 0 || ok && !isOrder(first, l, told) {
			t.Fatalf("P20.2: Order(%v, %+v): %v, %v, %d", first, l, told, ok, err)
		}
	}
}

// great makes a history of 64 deeds by eight workers, who are never idle, and an order of it.
func (m *mixer) great() ([]int, []api.Deed, []int) {
	first := make([]int, m.one(1, 1, 2, 8, 256))
	c := cells(first)
	place := upTo(64)
	shuffle(m, place)
	l := make([]api.Deed, 64)
	var order []int
	free := slices.Repeat([]int{1}, 8) // by worker: from when on it is
	busy := slices.Repeat([]int{-1}, 8)
	for k := range l {
		moment, w := 10*k+10, m.below(8)
		if busy[w] >= 0 {
			d := &l[busy[w]]
			d.End += m.below(moment - d.End)
			free[w] = d.End + 1
		}
		d := api.Deed{Kind: 1 + m.below(7), A: m.below(len(first)), B: m.below(4), C: m.below(4), Begin: free[w], End: moment}
		d.N, d.Ok = doneBy(c, d)
		busy[w] = place[k]
		l[place[k]] = d
		order = append(order, place[k])
	}
	return first, l, order
}
