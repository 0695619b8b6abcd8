package trie_test

import (
	"maps"
	"runtime"
	"slices"
	"sync/atomic"
	"testing"

	"skein/api"
	"skein/crew"
	"skein/trie"
)

// pairsOf: a plain map's pairs, by their keys.
func pairsOf(is map[int]int) []api.Pair {
	var list []api.Pair
	for _, key := range slices.Sorted(maps.Keys(is)) {
		list = append(list, api.Pair{Key: key, Value: is[key]})
	}
	return list
}

func keysIn(pairs []api.Pair) []int {
	var list []int
	for _, x := range pairs {
		list = append(list, x.Key)
	}
	return list
}

// walkAll: all pairs of a root.
func walkAll(x *trie.Trie, w *crew.Worker, root int) ([]api.Pair, api.Errno) {
	var list []api.Pair
	for p, err := range x.Walk(w, root, 0, most) {
		if err != api.OK {
			return nil, err
		}
		list = append(list, p)
	}
	return list, api.OK
}

// moment: a root, and what it told when it was made.
type moment struct {
	root  int
	is    map[int]int
	nodes []int
}

func (b both) wantMoment(t *testing.T, promise string, m moment) {
	t.Helper()
	pairs, err := walkAll(b.x, nil, m.root)
	list, err2 := b.x.Nodes(nil, m.root)
	if err != api.OK || err2 != api.OK || !slices.Equal(pairs, pairsOf(m.is)) || !slices.Equal(list, m.nodes) {
		t.Fatalf("%s: root %d: %v, %v, %v, %v, want %v, %v", promise, m.root, pairs, err, list, err2, pairsOf(m.is), m.nodes)
	}
}

// someKeys: keys of all sizes, such that many come twice.
func (m *mixer) someKey(spread int) int {
	switch m.below(3) {
	case 0:
		return m.one(fewKeys)
	case 1:
		return m.below(spread)
	}
	return m.below(spread) << m.below(24) & most
}

// edit does a Put or a Drop of a map; false, if there is nothing to drop.
func (b both) edit(t *testing.T, r *mixer, root int, is map[int]int, spread int) (api.Edit, bool) {
	t.Helper()
	key, value := r.someKey(spread), r.below(3)
	old, had := is[key]
	if r.below(3) > 0 {
		e, err := b.x.Put(nil, root, key, value)
		if err != api.OK || e.Had != had || e.Old != old {
			t.Fatalf("P12.6: Put(%d, %d): %+v, %v, had %d, %t", key, value, e, err, old, had)
		}
		is[key] = value
		return e, true
	}
	e, err := b.x.Drop(nil, root, key)
	if !had {
		if err != api.ErrTrieNone {
			t.Fatalf("P12.7: Drop(%d): %+v, %v", key, e, err)
		}
		return e, false
	}
	if err != api.OK || !e.Had || e.Old != old {
		t.Fatalf("P12.7: Drop(%d): %+v, %v, had %d", key, e, err, old)
	}
	delete(is, key)
	return e, true
}

// What a root tells never changes; the new root's nodes are the old one's without Gone, and Made.
func TestOldRootsStay(t *testing.T) {
	for seed := range 6 {
		r := mixer(seed)
		b := newBoth(t, 4096)
		now := moment{is: map[int]int{}}
		var past []moment
		for len(b.p.Free()) > 80 {
			is := maps.Clone(now.is)
			e, ok := b.edit(t, &r, now.root, is, 1+60*seed)
			if !ok {
				continue
			}
			list, err := b.x.Nodes(nil, e.Root)
			if err != api.OK {
				t.Fatalf("P12.9: Nodes: %v", err)
			}
			wantNodes(t, now.nodes, list, e)
			b.wantMoment(t, "P12.11: the old root", now)
			past = append(past, now)
			now = moment{e.Root, is, list}
			b.wantMoment(t, "P12.11: the new root", now)
			for range 5 {
				key := r.someKey(1 + 30*seed)
				want, has := is[key]
				if v, ok, err := b.x.Find(nil, now.root, key); v != want || ok != has || err != api.OK {
					t.Fatalf("P12.11: Find(%d): %d, %t, %v, want %d, %t", key, v, ok, err, want, has)
				}
			}
		}
		for _, m := range past {
			b.wantMoment(t, "P12.11: an old root", m)
		}
	}
}

// wantNodes: the new root's nodes are the old one's without Gone, and Made, none of which is in the old one.
func wantNodes(t *testing.T, old, now []int, e api.Edit) {
	t.Helper()
	set := map[int]int{}
	for _, h := range old {
		set[h]++
	}
	for _, h := range e.Gone {
		if set[h] != 1 {
			t.Fatalf("P12.11: Gone has %d, the old root %v: %+v", h, old, e)
		}
		delete(set, h)
	}
	for _, h := range e.Made {
		if slices.Contains(old, h) || set[h] != 0 {
			t.Fatalf("P12.11: Made has %d, the old root %v: %+v", h, old, e)
		}
		set[h]++
	}
	if len(set) != len(now) {
		t.Fatalf("P12.11: the new root has %v, the old one %v: %+v", now, old, e)
	}
	for _, h := range now {
		if set[h] != 1 {
			t.Fatalf("P12.11: the new root has %v, the old one %v: %+v", now, old, e)
		}
	}
}

// Memory comes back: as long as Gone is given back behind each change, the slots in use are those of the root.
func TestGoneComesBack(t *testing.T) {
	r := mixer(99)
	b := newBoth(t, 400)
	root, is := 0, map[int]int{}
	for range 4000 {
		e, ok := b.edit(t, &r, root, is, 40)
		if !ok {
			continue
		}
		if r.below(4) == 0 {
			// Undone, it is as if it had not been.
			if err := b.x.Undo(nil, e.Made); err != api.OK {
				t.Fatalf("P12.8: Undo: %v", err)
			}
			pairs, _ := walkAll(b.x, nil, root)
			is = map[int]int{}
			for _, p := range pairs {
				is[p.Key] = p.Value
			}
		} else {
			if err := b.x.Undo(nil, e.Gone); err != api.OK {
				t.Fatalf("P12.11: Gone: %v", err)
			}
			root = e.Root
		}
		if used := 400 - len(b.p.Free()); used != max(0, 2*len(is)-1) {
			t.Fatalf("P12.12: %d slots are in use, %d keys", used, len(is))
		}
		if len(is) > 90 {
			for key := range is {
				e, err := b.x.Drop(nil, root, key)
				if err != api.OK || b.x.Undo(nil, e.Gone) != api.OK {
					t.Fatalf("P12.7: %v", err)
				}
				root = e.Root
				delete(is, key)
			}
			if root != 0 || len(b.p.Free()) != 400 {
				t.Fatalf("P12.12: root %d, %d are free", root, len(b.p.Free()))
			}
		}
	}
	if b.p.Faults() != 0 {
		t.Errorf("P12.11: %d faults", b.p.Faults())
	}
}

// The longest way: 32 inner nodes.
func TestLongestWay(t *testing.T) {
	for _, flip := range []int{0, most, 0x1357_9BDF} {
		w := newTwin(t, 1500)
		root := w.root(t, flip)
		for place := range 32 {
			a := w.wants(t, "P12.6", put(flip^1<<place, place, root))
			if way := a.Ints[0]; len(a.Ints)-1-way != way+2 || way+2 > 34 {
				t.Fatalf("P12.11: a way of %d, %d made", way, len(a.Ints)-1-way)
			}
			root = a.N
		}
		if a := w.wants(t, "P12.4", find(flip, root)); a.Own != 33 || !a.Ok {
			t.Fatalf("P12.3: %+v", a)
		}
		if a := w.wants(t, "P12.6", put(flip, -1, root)); a.Own != 33+3*33 || len(a.Ints) != 1+33+33 {
			t.Fatalf("P12.11: the longest way: %+v", a)
		}
		if a := w.wants(t, "P12.7", drop(flip, root)); a.Own != 33+3*31 || len(a.Ints) != 1+33+31 {
			t.Fatalf("P12.7: the longest way: %+v", a)
		}
		if a := w.wants(t, "P12.9", nodes(root)); len(a.Ints) != 65 || a.Own != 65 {
			t.Fatalf("P12.12: %+v", a)
		}
		var keys []int
		for place := range 32 {
			keys = append(keys, flip^1<<place)
		}
		slices.Sort(keys)
		for i := range 33 {
			w.wants(t, "P12.5", nth(i, root))
			w.wants(t, "P12.5", after(keys[min(i, 31)], root))
			w.wants(t, "P12.4", rank(keys[min(i, 31)], root))
		}
		w.wants(t, "P12.9", walk(0, most, root))
		w.wants(t, "P12.9", diff(w.root(t, keys[:20]...), root))
	}
}

// shape: a root's nodes without their handles: the numbers of each, in the order of Nodes.
func (b both) shape(t *testing.T, root int) []api.Node {
	t.Helper()
	list, err := b.x.Nodes(nil, root)
	if err != api.OK {
		t.Fatalf("P12.9: Nodes: %v", err)
	}
	var shape []api.Node
	for _, h := range list {
		x, _ := b.p.Read(nil, h)
		if x.A > 0 {
			x.B, x.C = 0, 0
		}
		shape = append(shape, x)
	}
	return shape
}

// permutations calls f with every order of some numbers.
func permutations(list []int, f func(list []int)) {
	if len(list) == 0 {
		f(nil)
		return
	}
	for i, first := range list {
		rest := append(slices.Clone(list[:i]), list[i+1:]...)
		permutations(rest, func(others []int) { f(append([]int{first}, others...)) })
	}
}

// One set of keys has one shape, in whatever order they came, and whatever came and went beside them.
func TestOneShape(t *testing.T) {
	for _, keys := range [][]int{{1}, {1, 2}, {0, most}, {0, 1, 2, 3}, {5, 6, 7, 12, 1 << 31}, {0, 1, 1 << 31, most - 1, most}} {
		var want []api.Node
		permutations(keys, func(order []int) {
			b := newBoth(t, 300)
			root := 0
			put := func(key, value int) {
				e, err := b.x.Put(nil, root, key, value)
				if err != api.OK {
					t.Fatalf("P12.6: %v", err)
				}
				root = e.Root
			}
			for i, key := range order {
				put(key^64, 1)
				put(key, i)
				put(key, 10*key)
			}
			for _, key := range order {
				e, err := b.x.Drop(nil, root, key^64)
				if err != api.OK {
					t.Fatalf("P12.7: %v", err)
				}
				root = e.Root
			}
			shape := b.shape(t, root)
			if want == nil {
				want = shape
			}
			if len(shape) != 2*len(keys)-1 || !slices.Equal(shape, want) {
				t.Fatalf("P12.12: order %v: %v, want %v", order, shape, want)
			}
			pairs, _ := walkAll(b.x, nil, root)
			if !slices.Equal(keysIn(pairs), slices.Sorted(slices.Values(keys))) {
				t.Fatalf("P12.12: order %v: %v", order, pairs)
			}
		})
	}
}

// Two orders of the same Puts and Drops, of keys that are unlike, behind a common beginning.
func TestTwoOrders(t *testing.T) {
	for seed := range 60 {
		r := mixer(seed)
		b := newBoth(t, 4096)
		var keys []int
		for len(keys) < 40 {
			if key := r.someKey(200); !slices.Contains(keys, key) {
				keys = append(keys, key)
			}
		}
		begin := 0
		for i, key := range keys[:20] {
			e, _ := b.x.Put(nil, begin, key, i)
			begin = e.Root
		}
		var roots [2]int
		for i := range roots {
			roots[i] = begin
			for n := len(keys) - 1; n > 0; n-- {
				j := r.below(n + 1)
				keys[n], keys[j] = keys[j], keys[n]
			}
			for _, key := range keys {
				e, err := b.x.Drop(nil, roots[i], key)
				if key%3 > 0 || err == api.ErrTrieNone {
					e, err = b.x.Put(nil, roots[i], key, -key)
				}
				if err != api.OK {
					t.Fatalf("P12.12: %v", err)
				}
				roots[i] = e.Root
			}
		}
		if x, y := b.shape(t, roots[0]), b.shape(t, roots[1]); !slices.Equal(x, y) {
			t.Fatalf("P12.12: %v, %v", x, y)
		}
		for c, err := range b.x.Diff(nil, roots[0], roots[1]) {
			t.Fatalf("P12.12: Diff of the same pairs: %+v, %v", c, err)
		}
	}
}

// Rank and Select go back and forth; Next goes through Walk's keys.
func TestBackAndForth(t *testing.T) {
	for seed := range 30 {
		r := mixer(seed)
		b := newBoth(t, 2000)
		root, is := 0, map[int]int{}
		for range 20 + 3*seed {
			if e, ok := b.edit(t, &r, root, is, 1000); ok {
				b.x.Undo(nil, e.Gone)
				root = e.Root
			}
		}
		pairs := pairsOf(is)
		for i, p := range pairs {
			rank, err := b.x.Rank(nil, root, p.Key)
			s, err2 := b.x.Select(nil, root, rank)
			if rank != i || s != p || err != api.OK || err2 != api.OK {
				t.Fatalf("P12.12: Rank(%d) %d, %v; Select %v, %v", p.Key, rank, err, s, err2)
			}
			next, err := b.x.Next(nil, root, p.Key)
			if i+1 < len(pairs) && (next != pairs[i+1] || err != api.OK) || i+1 == len(pairs) && err != api.ErrTrieNone {
				t.Fatalf("P12.12: Next(%d): %v, %v of %v", p.Key, next, err, pairs)
			}
		}
		if _, err := b.x.Select(nil, root, len(pairs)); err != api.ErrTrieNone {
			t.Fatalf("P12.5: %v", err)
		}
		for range 100 {
			lo, hi := r.someKey(1000), r.someKey(1000)
			var want, got []api.Pair
			for _, p := range pairs {
				if lo <= p.Key && p.Key <= hi {
					want = append(want, p)
				}
			}
			for p := range b.x.Walk(nil, root, lo, hi) {
				got = append(got, p)
			}
			if !slices.Equal(got, want) {
				t.Fatalf("P12.9: Walk(%d, %d): %v, want %v", lo, hi, got, want)
			}
		}
	}
}

// onlyOne counts the nodes that only one of two roots has.
func onlyOne(a, b []int) int {
	set := map[int]int{}
	for _, h := range append(slices.Clone(a), b...) {
		set[h]++
	}
	n := 0
	for _, times := range set {
		if times == 1 {
			n++
		}
	}
	return n
}

// laid tells a map behind a Diff's changes; each must be one, and they rise.
func laid(t *testing.T, a map[int]int, changes []int) map[int]int {
	t.Helper()
	is, last := maps.Clone(a), -1
	for c := range slices.Chunk(changes, 5) {
		key, had, old, has, now := c[0], c[1] == 1, c[2], c[3] == 1, c[4]
		was, there := is[key]
		if key <= last || there != had || was != old || had && has && old == now || !had && !has || !has && now != 0 {
			t.Fatalf("P12.9: a change %v of %v", c, a)
		}
		last = key
		delete(is, key)
		if has {
			is[key] = now
		}
	}
	return is
}

// Diff of a and b, laid on a, is b; and it reads few nodes where they share many.
func TestDiffLaid(t *testing.T) {
	least := 1 << 30
	for seed := range 20 {
		r := mixer(seed)
		b := newBoth(t, 4096)
		now := moment{is: map[int]int{}}
		past := []moment{now}
		spread := 1 + 20*seed
		for len(b.p.Free()) > 80 && len(past) < 120 {
			is := maps.Clone(now.is)
			if e, ok := b.edit(t, &r, now.root, is, spread); ok {
				now.root, now.is = e.Root, is
				now.nodes, _ = b.x.Nodes(nil, e.Root)
				past = append(past, now)
				// Now and then from an old one, so that roots are unlike in both.
				if r.below(20) == 0 {
					now = past[r.below(len(past))]
				}
			}
		}
		for range 120 {
			x, y := past[r.below(len(past))], past[r.below(len(past))]
			a := b.by(t, diff(x.root, y.root))
			if a.Err != api.OK || !maps.Equal(laid(t, x.is, a.Ints), y.is) {
				t.Fatalf("P12.12: Diff of %v and %v: %+v", x, y, a)
			}
			// A call without a line has one.
			if bound := 2*onlyOne(x.nodes, y.nodes) + 2; a.Own > bound {
				t.Fatalf("P12.12: Diff reads %d nodes, at most %d", a.Own, bound)
			}
			if all := len(x.nodes) + len(y.nodes); all > 60 {
				least = min(least, a.Own*100/all)
			}
			if x.root == y.root && (len(a.Ints) > 0 || a.Own != 1) {
				t.Fatalf("P12.12: Diff of a root with itself: %+v", a)
			}
		}
	}
	if least > 20 {
		t.Errorf("the cases are too plain: at least %d percent are read", least)
	}
}

// loose does f by so many workers, without turns; all have come when they begin.
func loose(t *testing.T, promise string, workers int, f func(w *crew.Worker) []int) {
	t.Helper()
	var come atomic.Int64
	c := api.Case{Work: slices.Repeat([][]api.Call{{{}}}, workers)}
	answers, err := crew.Loose(c, does(func(w *crew.Worker, _ api.Call) api.Answer {
		come.Add(1)
		for come.Load() < int64(workers) {
			runtime.Gosched()
		}
		return api.Answer{Ints: f(w)}
	}))
	if err != api.OK || len(answers) != workers {
		t.Fatalf("Loose: %v, %v", answers, err)
	}
	for k, list := range answers {
		if len(list) != 1 || list[0].Err != api.OK || len(list[0].Ints) > 0 {
			t.Fatalf("%s: worker %d finds %+v", promise, k, list)
		}
	}
}

// Without turns: each worker has a map of its own, all in one pool, and reads one that is everybody's.
func TestLooseMaps(t *testing.T) {
	b := newBoth(t, 2000)
	shared, is := 0, map[int]int{}
	for _, key := range fewKeys {
		e, _ := b.x.Put(nil, shared, key, 10*key)
		b.x.Undo(nil, e.Gone)
		shared, is[key] = e.Root, 10*key
	}
	all := pairsOf(is)
	loose(t, "P12.11", 8, func(w *crew.Worker) []int {
		r := mixer(w.Number())
		root, mine := 0, map[int]int{}
		for round := range 1500 {
			key := r.someKey(30)
			e, err := b.x.Put(w, root, key, round)
			mine[key] = round
			if r.below(3) == 0 {
				b.x.Undo(w, e.Made)
				delete(mine, key)
				if e, err = b.x.Drop(w, root, key); err == api.ErrTrieNone {
					continue
				}
			}
			if err != api.OK || b.x.Undo(w, e.Gone) != api.OK {
				return []int{round, int(err)}
			}
			root = e.Root
			if p, err := walkAll(b.x, w, shared); err != api.OK || !slices.Equal(p, all) {
				return []int{round, int(err)}
			}
			key = r.someKey(30)
			want, has := mine[key]
			if v, ok, err := b.x.Find(w, root, key); v != want || ok != has || err != api.OK {
				return []int{round, key, v, want}
			}
			if len(mine) > 50 {
				if list, err := b.x.Nodes(w, root); err != api.OK || b.x.Undo(w, list) != api.OK {
					return []int{round, int(err)}
				}
				root = 0
				clear(mine)
			}
		}
		p, err := walkAll(b.x, w, root)
		list, err2 := b.x.Nodes(w, root)
		if err != api.OK || err2 != api.OK || !slices.Equal(p, pairsOf(mine)) || b.x.Undo(w, list) != api.OK {
			return []int{int(err), int(err2), len(p), len(mine)}
		}
		return nil
	})
	if used := 2000 - len(b.p.Free()); used != 2*len(is)-1 || b.p.Faults() != 0 {
		t.Errorf("P12.12: %d slots are in use, %d faults", used, b.p.Faults())
	}
}

// Without turns: all change one root, each for itself; what it tells is never another one.
func TestLooseChangesOfOneRoot(t *testing.T) {
	b := newBoth(t, 600)
	shared, is := 0, map[int]int{}
	for _, key := range fewKeys {
		e, _ := b.x.Put(nil, shared, key, key)
		b.x.Undo(nil, e.Gone)
		shared, is[key] = e.Root, key
	}
	loose(t, "P12.11", 8, func(w *crew.Worker) []int {
		r := mixer(w.Number())
		for round := range 2000 {
			key, value := r.someKey(30), -1-r.below(1000)
			e, err := b.x.Put(w, shared, key, value)
			if err != api.OK {
				return []int{round, int(err)}
			}
			mine := maps.Clone(is)
			mine[key] = value
			p, err := walkAll(b.x, w, e.Root)
			n := 0
			for c, err := range b.x.Diff(w, shared, e.Root) {
				if n++; err != api.OK || c.Key != key || c.New != value || !c.Has {
					return []int{round, int(err)}
				}
			}
			if err != api.OK || !slices.Equal(p, pairsOf(mine)) || n != 1 || b.x.Undo(w, e.Made) != api.OK {
				return []int{round, int(err), n}
			}
		}
		return nil
	})
	if pairs, err := walkAll(b.x, nil, shared); err != api.OK || !slices.Equal(pairs, pairsOf(is)) || len(b.p.Free()) != 600-2*len(is)+1 {
		t.Errorf("P12.11: %v, %v, %d are free", pairs, err, len(b.p.Free()))
	}
}
