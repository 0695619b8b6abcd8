package audit_test

import (
	"fmt"
	"slices"
	"testing"

	"skein/api"
	"skein/audit"
	"skein/crew"
	"skein/store"
)

// takes takes a slot by hand.
func takes(t *testing.T, m *store.Store, x api.Node) int {
	t.Helper()
	return must[int](t)(m.Pool().Take(nil, x, 0))
}

// lays publishes a version by hand.
func lays(t *testing.T, m *store.Store, part int, x api.Node, set ...int) int {
	t.Helper()
	old := 0
	if list := m.Chain(part).Versions(); len(list) > 0 {
		old = list[0]
	}
	h, ok, err := m.Chain(part).Push(nil, old, x, set)
	if !ok || err != api.OK {
		t.Fatalf("Push: %t, %v", ok, err)
	}
	return h
}

// agrees holds all answers against the chapter's words, and each part's Trims against what a Trim retires over a map that was made by the same deeds.
func agrees(t *testing.T, promise string, made func() *store.Store) {
	t.Helper()
	m := made()
	holds(t, promise, m)
	trims := audit.Trims(m)
	for part := range m.Parts() {
		other := made()
		if n := retires(other, part); n != trims[part] {
			t.Fatalf("%s: the Trim of part %d retires %d, want %d, of %+v", promise, part, n, trims[part], pictureOf(m))
		}
	}
}

// P23.1: where several lines fit, the first one is told.
func TestTheFirstLineThatFits(t *testing.T) {
	// A version that waits, and a node that waits.
	m := after(t, get(1))
	m.Epoch().Retire(nil, handle(2, 1))
	m.Epoch().Retire(nil, handle(1, 1))
	wantUses(t, "P23.1: a version and a node wait", m, node(0, 1, 1), version(0, 1))
	holds(t, "P23.1", m)

	// A version that another part's version has as a node; what hangs on it there is what its numbers name.
	m = after(t, get(1))
	leaf := takes(t, m, api.Node{B: 5, C: 50, D: 1})
	lays(t, m, 0, api.Node{A: handle(1, 1), B: leaf})
	if _, err := m.Chain(1).First(nil, api.Node{A: handle(4, 1), B: 1}); err != api.OK {
		t.Fatal(err)
	}
	// The slot 4 holds {a handle, a handle, 0, 0}: as a node it is an inner one, so the leaf is had by way of it.
	wantUses(t, "P23.1: a version as a node", m, node(0, 1, leaf), version(0, 1), node(1, 1, 1), version(0, leaf), version(1, 1))
	wantLeast(t, "P23.3: a version as a node", m, 4)
	holds(t, "P23.1", m)

	// Nodes that two parts' versions have: the lesser part counts, with its own versions' numbers alone.
	m = after(t, put(1, 11), get(far))
	lays(t, m, 1, api.Node{A: handle(3, 1), B: 9})
	lays(t, m, 0, api.Node{A: handle(5, 1), B: 3})
	wantUses(t, "P23.1: two parts", m, node(0, 1, 1), version(0, 1), node(0, 2, 2), version(0, 2), node(0, 3, 3), version(1, 1), version(1, 9), version(0, 3))
	wantLeast(t, "P23.3: two parts", m, 4)
	holds(t, "P23.1", m)

	// One slot as a version of two parts' chains.
	m = after(t, get(1), get(far))
	must[int](t)(m.Pool().SwapLink(nil, handle(4, 1), handle(2, 1)))
	wantUses(t, "P23.1: a version of two parts", m, node(0, 1, 1), version(0, 1), node(1, 1, 1), version(1, 1))
	holds(t, "P23.1", m)
	wantTrims(t, "P23.3: a version of two parts", m, 0, 1)
	wantLeast(t, "P23.3: a version of two parts", m, 4)
}

// P23.1: a handle of an older generation, or of none, is nobody's slot.
func TestOldHandles(t *testing.T) {
	m := after(t)
	h := takes(t, m, api.Node{})
	m.Epoch().Retire(nil, h)
	wantUses(t, "P23.1: its own handle waits", m, waits(0))
	m.Pool().Give(nil, h)
	wantUses(t, "P23.1: it was given back", m)
	is := takes(t, m, api.Node{})
	wantUses(t, "P23.1: it was taken again", m, isOther)
	m.Epoch().Retire(nil, is)
	wantUses(t, "P23.1: both handles wait", m, waits(0))

	// A version's root, and an inner node's children, of other generations, of no slots, and no handles.
	for _, bad := range []int{0, 1, -1, lowest, highest, handle(1, 0), handle(1, 2), handle(1, 3), handle(0, 1), handle(41, 1), handle(1, 1) - 1, handle(1, 1) + 1, 1 << 60, 1<<60 + handle(1, 1), -handle(1, 1), handle(1<<20-1, 1)} {
		m := after(t)
		leaf := takes(t, m, api.Node{B: 5, D: 1})
		inner := takes(t, m, api.Node{A: 7, B: bad, C: leaf})
		lays(t, m, 0, api.Node{A: inner, B: 1})
		lays(t, m, 0, api.Node{A: bad, B: 2})
		wantUses(t, fmt.Sprintf("P23.1: a child %d", bad), m, node(0, 1, 1), node(0, 1, 1), version(0, 1), version(0, 2))
		wantLeast(t, fmt.Sprintf("P23.3: a root %d", bad), m, 1)
		holds(t, "P23.1", m)
		m.Epoch().Retire(nil, bad)
		holds(t, "P23.1", m)
	}
}

// P23.1: of a node whose first number isn't above 0 nothing hangs, whatever its numbers are.
func TestWhatHangsOnNodes(t *testing.T) {
	for _, x := range []struct {
		first int
		hangs bool
	}{{0, false}, {-1, false}, {lowest, false}, {api.Poison, false}, {1, true}, {2, true}, {highest, true}} {
		m := after(t)
		a, b, c := takes(t, m, api.Node{D: 1}), takes(t, m, api.Node{D: 1}), takes(t, m, api.Node{D: 1})
		lays(t, m, 0, api.Node{A: takes(t, m, api.Node{A: x.first, B: a, C: b, D: c}), B: 4})
		want := []api.Use{isOther, isOther, isOther, node(0, 4, 4), version(0, 4)}
		if x.hangs {
			want[0], want[1] = node(0, 4, 4), node(0, 4, 4)
		}
		wantUses(t, fmt.Sprintf("P23.1: a first number %d", x.first), m, want...)
		holds(t, "P23.1", m)
	}
}

// P23.1: what a version has that has itself, or its own version; nodes in a ring; and in a long row.
func TestRingsOfNodes(t *testing.T) {
	m := after(t)
	a := takes(t, m, api.Node{A: 1, B: handle(1, 1), C: handle(2, 1)})
	takes(t, m, api.Node{A: 1, B: a, C: handle(3, 1)})
	lays(t, m, 0, api.Node{A: a, B: 1})
	wantUses(t, "P23.1: a ring", m, node(0, 1, 1), node(0, 1, 1), version(0, 1))
	wantLeast(t, "P23.3: a ring", m, 3)
	holds(t, "P23.1", m)
	m = after(t)
	lays(t, m, 1, api.Node{A: handle(1, 1), B: 2})
	wantUses(t, "P23.1: a version that has itself", m, version(1, 2))
	wantLeast(t, "P23.3: a version that has itself", m, 1)
	holds(t, "P23.1", m)

	m = newMap(t, api.Setup{Parts: 1, Workers: 1, Slots: 4096, Leases: 1})
	last := 0
	for range 4095 {
		last = takes(t, m, api.Node{A: 1, B: last, C: last})
	}
	lays(t, m, 0, api.Node{A: last, B: 7})
	wantUses(t, "P23.1: a long row", m, append(slices.Repeat([]api.Use{node(0, 7, 7)}, 4095), version(0, 7))...)
	wantLeast(t, "P23.3: a long row", m, 4096)
}

// P23.1: the least and the greatest number, however versions are numbered.
func TestNumbersByHand(t *testing.T) {
	for _, numbers := range [][]int{{1, 2, 3}, {3, 2, 1}, {2, 9, 5}, {5, -4, 0}, {7, 7, 7}, {highest, lowest, 0}, {0, 0, 1}} {
		m := after(t)
		leaf := takes(t, m, api.Node{D: 1})
		inner := takes(t, m, api.Node{A: 1, B: leaf})
		lays(t, m, 1, api.Node{A: leaf, B: numbers[0]})
		lays(t, m, 1, api.Node{A: inner, B: numbers[1]})
		lays(t, m, 1, api.Node{A: inner, B: numbers[2]})
		wantUses(t, "P23.1: numbers by hand", m,
			node(1, slices.Min(numbers), slices.Max(numbers)), node(1, min(numbers[1], numbers[2]), max(numbers[1], numbers[2])),
			version(1, numbers[0]), version(1, numbers[1]), version(1, numbers[2]))
		holds(t, "P23.1", m)
	}
}

// P23.1: slots that lie in the pile twice, and such as lie in it no more.
func TestSpoiltPiles(t *testing.T) {
	m := newMap(t, api.Setup{Parts: 1, Workers: 1, Slots: 4, Leases: 1})
	m.Pool().Back(nil, 3, 0) // 3 is on top, and below 2: 4 is lost
	if l := m.Pool().Free(); !slices.Equal(l, []int{3, 1, 2}) {
		t.Fatalf("Free: %v", l)
	}
	wantUses(t, "P23.1: a lost slot", m, isFree, isFree, isFree, isOther)
	wantRest(t, "P23.3: a lost slot", m, false)
	holds(t, "P23.1", m)
	h := takes(t, m, api.Node{})
	if l := m.Pool().Free(); h != handle(3, 3) || !slices.Contains(l, 3) {
		t.Fatalf("Take: %d, Free: %v", h, l)
	}
	wantUses(t, "P23.1: in use, and in the pile", m, isFree, isFree, isOther, isOther)
	m.Epoch().Retire(nil, h)
	wantUses(t, "P23.1: it waits, and is in the pile", m, isFree, isFree, waits(0), isOther)
	holds(t, "P23.1", m)
	// The slot's handle is that of its generation, be it even.
	m.Epoch().Retire(nil, handle(4, 0))
	wantUses(t, "P23.1: a lost slot that waits", m, isFree, isFree, waits(0), waits(0))
	holds(t, "P23.1", m)
	m.Epoch().Retire(nil, handle(1, 0))
	wantUses(t, "P23.1: a free slot that waits", m, isFree, isFree, waits(0), waits(0))
	holds(t, "P23.1", m)
}

// P23.3: chains that were spoilt by hand: what a Trim would retire, also where it ends with an error.
func TestTrimsOfSpoiltChains(t *testing.T) {
	three := []api.Call{get(1), put(1, 11), put(1, 12)}
	v := []int{handle(2, 1), handle(4, 1), handle(6, 1)} // the versions, the first one first
	for _, x := range []struct {
		what  string
		spoil func(m *store.Store)
		want  int
	}{
		{"nothing", func(m *store.Store) {}, 4},
		{"the first one was given back: the Trim retires its handle, and ends there", func(m *store.Store) { m.Pool().Give(nil, v[0]) }, 4},
		{"the second one was given back", func(m *store.Store) { m.Pool().Give(nil, v[1]) }, 2},
		{"the newest one was given back", func(m *store.Store) { m.Pool().Give(nil, v[2]) }, 0},
		{"the newest one's link is no handle", func(m *store.Store) { m.Pool().SwapLink(nil, v[2], 7) }, 2},
		{"the newest one's link is below 0", func(m *store.Store) { m.Pool().SwapLink(nil, v[2], -1) }, 2},
		{"the newest one's link is a free slot's", func(m *store.Store) { m.Pool().SwapLink(nil, v[2], handle(9, 1)) }, 2},
		{"the newest one's link is a node's", func(m *store.Store) { m.Pool().SwapLink(nil, v[2], handle(5, 1)) }, 2},
		{"it has none", func(m *store.Store) { m.Pool().SwapLink(nil, v[2], 0) }, 0},
		{"the second one is cut off", func(m *store.Store) { m.Chain(0).Cut(nil, v[2]) }, 0},
		{"the first one is cut off", func(m *store.Store) { m.Chain(0).Cut(nil, v[1]) }, 2},
		{"the newest one is its own", func(m *store.Store) { m.Pool().SwapLink(nil, v[2], v[2]) }, 2},
		{"a ring of all", func(m *store.Store) { m.Pool().SwapLink(nil, v[0], v[2]) }, 5},
		{"a ring of the older ones", func(m *store.Store) { m.Pool().SwapLink(nil, v[0], v[1]) }, 5},
		{"the newest one's stamp is above all", func(m *store.Store) {
			lays(t, m, 0, api.Node{B: 4}, 1, 2, 3)
			m.Pool().CasMark(nil, handle(7, 1), 1, 99)
		}, 4},
		{"all stamps are above all", func(m *store.Store) {
			for _, h := range v {
				m.Pool().CasMark(nil, h, 1, 99)
			}
		}, 0},
		{"all stamps are above all, in a ring", func(m *store.Store) {
			for _, h := range v {
				m.Pool().CasMark(nil, h, 1, 99)
			}
			m.Pool().SwapLink(nil, v[0], v[2])
		}, 0},
		{"the ring goes by the newest one, whose stamp is above all", func(m *store.Store) {
			m.Pool().CasMark(nil, v[2], 1, 99)
			m.Pool().SwapLink(nil, v[0], v[2])
		}, 5},
		{"an older one has no stamp", func(m *store.Store) {
			m.Pool().CasMark(nil, v[2], 1, 99)
			m.Pool().CasMark(nil, v[1], 1, 0)
		}, 2},
		{"the newest one has none, in a ring, below a lease", func(m *store.Store) {
			m.Snap(nil)
			for _, h := range v {
				m.Pool().CasMark(nil, h, 1, 99)
			}
			m.Pool().CasMark(nil, v[2], 99, 0)
			m.Pool().SwapLink(nil, v[0], v[2])
		}, 0},
		{"a stamp is below 0", func(m *store.Store) {
			haltedBy(t, 1, 1, func(w *crew.Worker) { m.Snap(w) })
			m.Pool().CasMark(nil, v[1], 1, -5)
		}, 2},
		{"a set of a version that was laid by hand", func(m *store.Store) { lays(t, m, 0, api.Node{B: 4}, 0, -1, v[0], v[0], highest) }, 10},
	} {
		made := func() *store.Store {
			m := after(t, three...)
			x.spoil(m)
			return m
		}
		wantTrims(t, "P23.3: "+x.what, made(), x.want, 0)
		agrees(t, "P23.3: "+x.what, made)
	}
}

// A chain in a ring that fills a small pool: what lies ahead of where a Trim begins comes, too.
func TestTrimsOfARingInASmallPool(t *testing.T) {
	made := func() *store.Store {
		m := newMap(t, api.Setup{Parts: 1, Workers: 1, Slots: 2, Leases: 1})
		lays(t, m, 0, api.Node{B: 1}, 5)
		lays(t, m, 0, api.Node{B: 2}, 6, 7)
		m.Pool().CasMark(nil, handle(2, 1), 1, 99)
		m.Pool().SwapLink(nil, handle(1, 1), handle(2, 1))
		return m
	}
	wantTrims(t, "P23.3", made(), 5)
	agrees(t, "P23.3", made)
}

// deed does something by hand that may spoil a map.
func (m *mixer) deed(s *store.Store) {
	p := s.Pool()
	slots := len(p.Slots())
	part := m.below(s.Parts())
	anyHandle := func() int {
		i := 1 + m.below(min(slots, 9))
		switch m.below(8) {
		case 0:
			return one(m, []int{0, 1, -1, 7, lowest, highest, handle(0, 1), handle(slots+1, 1), 1 << 60})
		case 1:
			return handle(i, m.below(6))
		}
		return handle(i, p.Slots()[i-1].Gen)
	}
	head := func() int {
		if list := s.Chain(part).Versions(); len(list) > 0 {
			return list[0]
		}
		return 0
	}
	x := api.Node{A: one(m, []int{0, anyHandle(), anyHandle(), 1}), B: one(m, []int{1, 2, 3, 9, -1, anyHandle()}), C: one(m, []int{0, anyHandle()}), D: m.below(3)}
	var set []int
	for range m.below(4) {
		set = append(set, anyHandle())
	}
	switch m.below(20) {
	case 0, 1:
		p.Take(nil, x, one(m, []int{0, anyHandle()}))
	case 2:
		p.Take(nil, api.Node{A: 1, B: anyHandle(), C: anyHandle()}, 0)
	case 3, 4:
		p.Give(nil, anyHandle())
	case 5, 6:
		p.SwapLink(nil, anyHandle(), one(m, []int{0, anyHandle(), anyHandle()}))
	case 7, 8:
		h := anyHandle()
		for _, mark := range []int{0, 1, 2, 3, 99} {
			p.CasMark(nil, h, mark, one(m, []int{0, 0, 1, 2, 5, 99, -3}))
		}
	case 9, 10, 11:
		s.Chain(part).Push(nil, head(), x, set)
	case 12:
		s.Chain(part).First(nil, x)
	case 13:
		s.Chain(part).Cut(nil, one(m, []int{head(), anyHandle()}))
	case 14, 15:
		s.Epoch().Retire(nil, anyHandle())
	case 16:
		s.Snap(nil)
	case 17:
		s.Clock().Release(nil, m.below(3))
	case 18:
		if i := 1 + m.below(slots); m.below(4) == 0 {
			p.Back(nil, i, p.Slots()[i-1].Gen)
		}
	case 19:
		one(m, []func(){func() { s.Epoch().Enter(nil) }, func() { s.Epoch().Leave(nil) }, func() { s.Advance(nil) }, func() { s.Collect(nil) }})()
	}
}

// P23.1, P23.3: maps that were spoilt by many deeds, by whichever of them.
func TestMapsThatWereSpoilt(t *testing.T) {
	takesLong(t)
	counts := map[string]int{}
	for seed := range 3000 {
		made := func() *store.Store {
			m := mixer(seed)
			s := newMap(t, api.Setup{Parts: 1 + m.below(3), Workers: 2, Slots: one(&m, []int{1, 2, 3, 5, 9, 14, 20}), Leases: 2, Source: pairs(1, 10, 2, 20, far, 30)})
			calls := store.NewCalls(s)
			for range m.below(40) {
				switch m.below(4) {
				case 0:
					calls.Do(nil, one(&m, []api.Call{get(1), get(far), put(1, m.below(3)), put(3, 1), drop(2), put(far, m.below(4)), trim(0), trim(1), collect()}))
				default:
					m.deed(s)
				}
			}
			return s
		}
		agrees(t, fmt.Sprintf("P23.1, P23.3: seed %d", seed), made)
		p := pictureOf(made())
		by := p.havers()
		for i := range p.slots {
			list := p.fits(i+1, by)
			counts[fmt.Sprint(len(list), " lines fit")]++
			for _, x := range list {
				counts[fmt.Sprint("kind ", x.Kind)]++
			}
		}
		for part := range p.versions {
			if audit.Trims(made())[part] > 0 {
				counts["trims"]++
			}
		}
	}
	for what, least := range map[string]int{"0 lines fit": 1000, "1 lines fit": 10000, "2 lines fit": 500, "3 lines fit": 30, "kind 1": 5000, "kind 2": 2000, "kind 3": 1000, "kind 4": 500, "trims": 500} {
		if counts[what] < least {
			t.Errorf("the cases are too plain: %v", counts)
		}
	}
}
