package audit_test

import (
	"reflect"
	"slices"
	"testing"

	"skein/api"
	"skein/audit"
	"skein/store"
)

// picture: all that the layers tell of a map while nobody does a call.
type picture struct {
	slots    []api.Slot
	free     []int
	faults   int
	now      int // the clock's
	leases   []int
	epoch    int
	at       []int
	waiting  [][]int // by worker
	states   []int
	versions [][]int // by part
	sets     [][][]int
	names    []api.Pair
}

func pictureOf(m *store.Store) picture {
	p := picture{
		slots: m.Pool().Slots(), free: m.Pool().Free(), faults: m.Pool().Faults(), now: m.Clock().Now(nil), leases: m.Clock().Leases(),
		epoch: m.Epoch().Now(), at: m.Epoch().At(), states: m.Load().States(), names: m.Names(nil),
	}
	for k := range p.at {
		p.waiting = append(p.waiting, m.Epoch().Waiting(k))
	}
	for part := range m.Parts() {
		list := m.Chain(part).Versions()
		var sets [][]int
		for _, h := range list {
			sets = append(sets, m.Chain(part).Set(h))
		}
		p.versions, p.sets = append(p.versions, list), append(p.sets, sets)
	}
	return p
}

func (p picture) same(q picture) bool { return reflect.DeepEqual(p, q) }

// inUse: the slot of a handle, if it is in use by it.
func (p picture) inUse(h int) (api.Slot, bool) {
	i, gen := h>>40, h&(1<<40-1)
	if i < 1 || i > len(p.slots) || gen%2 == 0 || p.slots[i-1].Gen != gen {
		return api.Slot{}, false
	}
	return p.slots[i-1], true
}

// has: the handles of the nodes that a version has, by the chapter's words.
func (p picture) has(version int) map[int]bool {
	had := map[int]bool{}
	var of func(h int)
	of = func(h int) {
		x, is := p.inUse(h)
		if !is || had[h] {
			return
		}
		had[h] = true
		if x.Node.A > 0 {
			of(x.Node.B)
			of(x.Node.C)
		}
	}
	x, _ := p.inUse(version)
	of(x.Node.A)
	return had
}

// havers: by part and by the handle of a node the numbers of the versions that have it.
type havers []map[int][]int

func (p picture) havers() havers {
	var list havers
	for _, versions := range p.versions {
		numbers := map[int][]int{}
		for _, v := range versions {
			x, _ := p.inUse(v)
			for h := range p.has(v) {
				numbers[h] = append(numbers[h], x.Node.B)
			}
		}
		list = append(list, numbers)
	}
	return list
}

// fits: which of the table's first four lines fit a slot, one behind the other; all parts of a line count by the least one.
func (p picture) fits(i int, by havers) []api.Use {
	var list []api.Use
	h := handle(i, p.slots[i-1].Gen)
	if p.slots[i-1].Gen%2 == 0 && slices.Contains(p.free, i) {
		list = append(list, isFree)
	}
	for part, versions := range p.versions {
		if slices.Contains(versions, h) {
			list = append(list, version(part, p.slots[i-1].Node.B))
			break
		}
	}
	for part, numbers := range by {
		if l := numbers[h]; l != nil {
			list = append(list, node(part, slices.Min(l), slices.Max(l)))
			break
		}
	}
	for k, waiting := range p.waiting {
		if slices.Contains(waiting, h) {
			return append(list, waits(k))
		}
	}
	return list
}

func (p picture) uses() []api.Use {
	var list []api.Use
	by := p.havers()
	for i := range p.slots {
		list = append(list, append(p.fits(i+1, by), isOther)[0])
	}
	return list
}

func (p picture) least() int {
	slots := map[int]bool{}
	for _, versions := range p.versions {
		if len(versions) > 0 {
			slots[versions[0]] = true
			for h := range p.has(versions[0]) {
				slots[h] = true
			}
		}
	}
	return len(slots)
}

func (p picture) rest() bool {
	for _, l := range p.waiting {
		if len(l) > 0 {
			return false
		}
	}
	for _, l := range p.versions {
		if len(l) > 1 {
			return false
		}
	}
	return slices.Max(p.at) == 0 && slices.Max(p.leases) == 0 && !slices.Contains(p.uses(), isOther)
}

// trims: how many handles a Trim of a part would retire: by layer 17's words, on copies of the links.
func (p picture) trims(m *store.Store, part int) int {
	links, marks := map[int]int{}, map[int]int{}
	for i, x := range p.slots {
		links[handle(i+1, x.Gen)], marks[handle(i+1, x.Gen)] = x.Link, x.Mark
	}
	least := p.now
	for _, word := range p.leases {
		if word != 0 {
			least = min(least, word-1)
		}
	}
	if len(p.versions[part]) == 0 {
		return 0 // Top's error
	}
	h := p.versions[part][0]
	if marks[h] == 0 {
		marks[h] = p.now
	}
	for steps := 0; marks[h] > least; steps++ {
		h = links[h]
		if _, is := p.inUse(h); !is || steps > len(p.slots) {
			return 0
		}
	}
	n := 0
	for {
		if _, is := p.inUse(h); !is || links[h] == 0 {
			return n
		}
		older := links[h]
		links[h] = 0
		n += len(m.Chain(part).Set(h)) + 1
		h = older
	}
}

// holds asks all that can be asked of a map, and holds it against the chapter's words; asking changes nothing.
func holds(t *testing.T, promise string, m *store.Store) picture {
	t.Helper()
	p := pictureOf(m)
	uses := audit.Uses(m)
	if want := p.uses(); !slices.Equal(uses, want) {
		t.Fatalf("%s: Uses: %v, want %v, of %+v", promise, uses, want, p)
	}
	trims := audit.Trims(m)
	var want []int
	for part := range m.Parts() {
		want = append(want, p.trims(m, part))
	}
	if !slices.Equal(trims, want) {
		t.Fatalf("%s: Trims: %v, want %v, of %+v", promise, trims, want, p)
	}
	if n := audit.Least(m); n != p.least() {
		t.Fatalf("%s: Least: %d, want %d, of %+v", promise, n, p.least(), p)
	}
	if is := audit.Rest(m); is != p.rest() {
		t.Fatalf("%s: Rest: %t, want %t, of %+v", promise, is, p.rest(), p)
	}
	if q := pictureOf(m); !q.same(p) {
		t.Fatalf("P23.3: to ask changes %+v to %+v", p, q)
	}
	return p
}

// lawful holds what is promised of every moment of a run against a map: P23.5, P32.13; by a number above 0 that calls are open.
func lawful(t *testing.T, m *store.Store, open int) picture {
	t.Helper()
	p := holds(t, "P23.1, P23.3", m)
	by := p.havers()
	for i := range p.slots {
		if l := p.fits(i+1, by); len(l) > 1 {
			t.Fatalf("P23.5, P32.13: slot %d is for %v, of %+v", i+1, l, p)
		}
	}
	parts := map[int]int{}
	for part, numbers := range by {
		for h, list := range numbers {
			if was, had := parts[h]; had {
				t.Fatalf("P23.5: parts %d and %d have %d, of %+v", was, part, h, p)
			}
			parts[h] = part
			slices.Sort(list)
			if list[len(list)-1]-list[0] != len(list)-1 || len(slices.Compact(list)) != len(list) {
				t.Fatalf("P23.5: the versions %v of part %d have %d, of %+v", list, part, h, p)
			}
		}
	}
	n := audit.Sums(audit.Uses(m))
	if n.Free+n.Versions+n.Nodes+n.Waiting+n.Other != len(p.slots) {
		t.Fatalf("P23.5: %+v, of %+v", n, p)
	}
	if p.faults != 0 {
		t.Fatalf("P32.2: %d faults, of %+v", p.faults, p)
	}
	if open == 0 {
		still(t, m, p)
	}
	return p
}

// still holds what is promised behind a run without open calls: P23.6.
func still(t *testing.T, m *store.Store, p picture) {
	t.Helper()
	uses := audit.Uses(m)
	if slices.Contains(uses, isOther) {
		t.Fatalf("P23.6, P32.13: %v, of %+v", uses, p)
	}
	least := 0
	for _, versions := range p.versions {
		if len(versions) == 0 {
			continue
		}
		least++
		x, _ := p.inUse(versions[0])
		keys := 0
		nodes := p.has(versions[0])
		for h := range nodes {
			if n, _ := p.inUse(h); n.Node.A == 0 {
				keys++
			}
		}
		if len(nodes) != max(0, 2*keys-1) {
			t.Fatalf("P23.6: the version %d has %d keys and %d nodes, of %+v", x.Node.B, keys, len(nodes), p)
		}
		least += len(nodes)
	}
	if n := audit.Least(m); n != least {
		t.Fatalf("P23.6: Least: %d, want %d, of %+v", n, least, p)
	}
}

// wantUses asks what the slots are for; those that aren't told are free.
func wantUses(t *testing.T, promise string, m *store.Store, want ...api.Use) {
	t.Helper()
	slots := len(m.Pool().Slots())
	for len(want) < slots {
		want = append(want, isFree)
	}
	if got := audit.Uses(m); !slices.Equal(got, want) {
		t.Fatalf("%s: Uses: %v, want %v", promise, got, want)
	}
}

func wantTrims(t *testing.T, promise string, m *store.Store, want ...int) {
	t.Helper()
	if got := audit.Trims(m); !slices.Equal(got, want) {
		t.Fatalf("%s: Trims: %v, want %v", promise, got, want)
	}
}

func wantRest(t *testing.T, promise string, m *store.Store, want bool) {
	t.Helper()
	if got := audit.Rest(m); got != want {
		t.Fatalf("%s: Rest: %t, want %t", promise, got, want)
	}
}

func wantLeast(t *testing.T, promise string, m *store.Store, want int) {
	t.Helper()
	if got := audit.Least(m); got != want {
		t.Fatalf("%s: Least: %d, want %d", promise, got, want)
	}
}
