package scan_test

import (
	"fmt"
	"maps"
	"slices"
	"testing"

	"skein/api"
	"skein/scan"
	"skein/store"
)

// example: the map of the document's example, and its two snapshots.
var example = api.Setup{Parts: 2, Workers: 1, Slots: 100, Leases: 3, Source: pairs(1, 10, 2, 20, far, 40)}

var exampleX, exampleY = at(0, 1), at(1, 2)

func newExample(t *testing.T) real {
	t.Helper()
	return newReal(t, example).do(t, lease(), put(2, 21), drop(1), put(3, 30), lease())
}

// change: of a key, what it was and what it is; lacking: it wasn't, or isn't.
const lacking = lowest

func change(key, old, now int) api.Change {
	c := api.Change{Key: key, Old: old, Had: true, New: now, Has: true}
	if old == lacking {
		c.Old, c.Had = 0, false
	}
	if now == lacking {
		c.New, c.Has = 0, false
	}
	return c
}

// What scans answer. gave: pairs, and no error; more: a page behind which there is one more, last: one behind which there is none; changed: changes; failing: an error, and what was given ahead.
func gave(numbers ...int) api.Answer { return api.Answer{Ok: true, Pairs: pairs(numbers...)} }
func more(numbers ...int) api.Answer {
	return api.Answer{Ok: true, N: len(numbers) / 2, Pairs: pairs(numbers...)}
}
func last(numbers ...int) api.Answer {
	return api.Answer{N: len(numbers) / 2, Pairs: pairs(numbers...)}
}
func changed(list ...api.Change) api.Answer {
	return api.Answer{Ok: true, Ints: numbersOf(list)}
}
func failing(err api.Errno, a api.Answer) api.Answer {
	a.Ok, a.Err = false, err
	return a
}

// The document's example, step by step, by hand.
func TestExample(t *testing.T) {
	s, err := store.New(example)
	if err != api.OK {
		t.Fatal(err)
	}
	x, _ := s.Snap(nil)
	s.Put(nil, 2, 21)
	s.Drop(nil, 1)
	s.Put(nil, 3, 30)
	y, _ := s.Snap(nil)
	wants := func(what string, got, want any) {
		t.Helper()
		if fmt.Sprint(got) != fmt.Sprint(want) {
			t.Errorf("example: %s: %v, want %v", what, got, want)
		}
	}
	told := func(list any, err api.Errno) string { return fmt.Sprint(list, int(err)) }
	wants("Range(x, 0, MaxKey)", told(gathered(scan.Range(s, nil, x, 0, mostKey), 0)), "[{1 10} {2 20} {4000000000 40}] 0")
	wants("Range(y, 2, 3)", told(gathered(scan.Range(s, nil, y, 2, 3), 0)), "[{2 21} {3 30}] 0")
	n, err := scan.Count(s, nil, x, 2, mostKey)
	wants("Count(x, 2, MaxKey)", told(n, err), "2 0")
	list, isMore, err := scan.Page(s, nil, x, -1, 2)
	wants("Page(x, -1, 2)", fmt.Sprint(list, isMore, int(err)), "[{1 10} {2 20}] true 0")
	list, isMore, err = scan.Page(s, nil, x, 2, 2)
	wants("Page(x, 2, 2)", fmt.Sprint(list, isMore, int(err)), "[{4000000000 40}] false 0")
	changes, err := gathered(scan.Diff(s, nil, x, y), 0)
	wants("Diff(x, y)", told(changes, err), told([]api.Change{change(1, 10, lacking), change(2, 20, 21), change(3, lacking, 30)}, 0))
	totals, err := scan.Fan(s, x, 2)
	wants("Fan(x, 2)", told(totals, err), "[{2 30} {1 40}] 0")
	wants("Range(x, 5, 4)", told(gathered(scan.Range(s, nil, x, 5, 4), 0)), "[] 0")
	wants("Range(x, -1, 4)", told(gathered(scan.Range(s, nil, x, -1, 4), 0)), "[] 191")
}

// The lines of each call, by a worker of a run. Of a part that is there a View has 5 lines, and 2 more for each newer version; the part 1 is loaded by the first one who comes.
func TestLines(t *testing.T) {
	const viewX, viewY, loads = 5 + 2*3, 5, 1 + 2 + 3 + 5 + 1 + 2 + 1
	r := newExample(t)
	x, y := exampleX, exampleY
	r.wants(t, "P19.1", rangeBy(x, 0, mostKey), gave(1, 10, 2, 20, far, 40), viewX+3+loads+1)
	for range 2 {
		for _, c := range []struct {
			call  api.Call
			want  api.Answer
			lines int
		}{
			{rangeBy(x, 0, mostKey), gave(1, 10, 2, 20, far, 40), viewX + 3 + 5 + 1},
			{rangeBy(x, 0, 0), gave(), viewX + 2},
			{rangeBy(x, 1, 1), gave(1, 10), viewX + 2},
			{rangeBy(x, 2, 2), gave(2, 20), viewX + 2},
			{rangeBy(x, 3, 3), gave(), viewX + 2},
			{rangeBy(x, 4, 1<<31-1), gave(), viewX + 1},
			{rangeBy(x, 4, 1<<31), gave(), viewX + 1 + 5 + 1},
			{rangeBy(x, 1<<31, mostKey), gave(far, 40), 5 + 1},
			{rangeBy(x, far, far), gave(far, 40), 5 + 1},
			{rangeBy(x, far+1, mostKey), gave(), 5 + 1},
			{rangeBy(y, 2, 3), gave(2, 21, 3, 30), viewY + 3},
			{rangeBy(y, 0, mostKey), gave(2, 21, 3, 30, far, 40), viewY + 3 + 5 + 1},
			{rangeBy(y, 0, 1), gave(), viewY + 1},
			{countBy(x, 0, mostKey), number(3), viewX + 1 + 5 + 1},
			{countBy(x, 2, mostKey), number(2), viewX + 2 + 1 + 5 + 1},
			{countBy(x, 2, 2), number(1), viewX + 2 + 2},
			{countBy(x, 2, 3), number(1), viewX + 2 + 1},
			{countBy(x, 1, 1), number(1), viewX + 2 + 2},
			{countBy(x, 0, 0), number(0), viewX + 2},
			{countBy(x, 0, 1<<31-2), number(2), viewX + 1},
			{countBy(x, 0, 1<<31-1), number(2), viewX + 1},
			{countBy(x, 5, 1<<31), number(0), viewX + 1 + 1 + 5 + 1},
			{countBy(x, 1<<31, mostKey), number(1), 5 + 1},
			{countBy(x, 1<<31+1, mostKey-1), number(1), 5 + 1 + 1},
			{countBy(y, 3, far), number(2), viewY + 2 + 1 + 5 + 1},
			{pageBy(x, -1, 2), more(1, 10, 2, 20), viewX + 3 + 5 + 1},
			{pageBy(x, -1, 1), more(1, 10), viewX + 3},
			{pageBy(x, -1, 3), last(1, 10, 2, 20, far, 40), viewX + 3 + 5 + 1},
			{pageBy(x, 2, 2), last(far, 40), viewX + 2 + 5 + 1},
			{pageBy(x, 1<<31-1, 2), last(far, 40), 5 + 1},
			{pageBy(x, far, 1), last(), 5 + 1},
			{diffBy(x, y), changed(change(1, 10, lacking), change(2, 20, 21), change(3, lacking, 30)), viewX + viewY + 6 + 5 + 5},
			{diffBy(y, x), changed(change(1, lacking, 10), change(2, 21, 20), change(3, 30, lacking)), viewX + viewY + 6 + 5 + 5},
			{diffBy(x, x), changed(), 2*viewX + 2*5},
			{diffBy(y, y), changed(), 2*viewY + 2*5},
		} {
			r.wantsStill(t, "P19.1 to P19.4", c.call, c.want, c.lines)
		}
	}
}

// An empty map: a View's lines, and one of each Rank and Count; a Walk of nothing has none.
func TestLinesOfNothing(t *testing.T) {
	r := newReal(t, api.Setup{Parts: 2, Workers: 1, Slots: 9, Leases: 2}).do(t, lease(), rangeBy(at(0, 1), 0, mostKey), lease())
	x, y := at(0, 1), at(1, 2)
	for _, c := range []struct {
		call  api.Call
		want  api.Answer
		lines int
	}{
		{rangeBy(x, 0, mostKey), gave(), 5 + 5},
		{rangeBy(x, 5, 5), gave(), 5},
		{countBy(x, 0, mostKey), number(0), 6 + 6},
		{countBy(x, 5, mostKey), number(0), 7 + 6},
		{countBy(x, 5, 6), number(0), 7},
		{countBy(x, 0, 6), number(0), 6},
		{pageBy(x, -1, 1), last(), 5 + 5},
		{pageBy(y, far, mostPage), last(), 5},
		{diffBy(x, y), changed(), 4 * 5},
	} {
		r.wantsStill(t, "P19.1 to P19.4", c.call, c.want, c.lines)
	}
}

// notSnapshots: such as nobody took, as were let go, as have another stamp.
func notSnapshots(x api.Snap) []api.Snap {
	list := []api.Snap{{}, at(x.Lease+1, x.Stamp), at(x.Lease, x.Stamp+1), at(x.Lease, x.Stamp-1)}
	for _, n := range badLeases {
		list = append(list, at(n, x.Stamp))
	}
	for _, n := range badStamps {
		list = append(list, at(x.Lease, n), at(n, n))
	}
	return list
}

// Ranges that are none: one line, whatever the snapshot, and whatever else is wrong; lo above hi is no error, and gives nothing.
func TestNoRanges(t *testing.T) {
	failed191 := failed(api.ErrScanRange)
	for _, r := range []real{newExample(t), newReal(t, api.Setup{Parts: mostParts, Workers: 1, Slots: 3, Leases: 1, Fails: 1})} {
		for _, x := range []api.Snap{exampleX, exampleY, {}, at(-1, 1), at(highest, lowest)} {
			for _, bad := range badKeys {
				for _, n := range append([]int{0, 1, 1 << 31, mostKey}, badKeys...) {
					r.wantsStill(t, "P19.1", rangeBy(x, bad, n), failed191, 1)
					r.wantsStill(t, "P19.1", rangeBy(x, n, bad), failed191, 1)
					r.wantsStill(t, "P19.2", countBy(x, bad, n), failed191, 1)
					r.wantsStill(t, "P19.2", countBy(x, n, bad), failed191, 1)
				}
			}
			for _, c := range [][2]int{{1, 0}, {5, 4}, {mostKey, mostKey - 1}, {mostKey, 0}, {1 << 31, 1<<31 - 1}, {far, 3}} {
				r.wantsStill(t, "P19.1", rangeBy(x, c[0], c[1]), gave(), 1)
				r.wantsStill(t, "P19.2", countBy(x, c[0], c[1]), number(0), 1)
			}
		}
	}
	// Lo that is hi is a range.
	r := newExample(t)
	for key, want := range map[int]api.Answer{0: gave(), 1: gave(1, 10), 2: gave(2, 20), far: gave(far, 40), mostKey: gave()} {
		if a := r.by(t, rangeBy(exampleX, key, key)); !sameAnswer(a, want) {
			t.Errorf("P19.1: Range(%d, %d): %+v", key, key, a)
		}
		if a := r.by(t, countBy(exampleX, key, key)); !sameAnswer(a, number(len(want.Pairs))) {
			t.Errorf("P19.2: Count(%d, %d): %+v", key, key, a)
		}
	}
}

// Pages that are none: one line, and what is wrong with the page is looked at ahead of its being the last one.
func TestNoPages(t *testing.T) {
	failed191 := failed(api.ErrScanRange)
	for _, r := range []real{newExample(t), newReal(t, api.Setup{Parts: mostParts, Workers: 1, Slots: 3, Leases: 1, Fails: 1})} {
		for _, x := range []api.Snap{exampleX, {}, at(highest, lowest)} {
			for _, after := range badAfters {
				for _, n := range append([]int{1, mostPage}, badPages...) {
					r.wantsStill(t, "P19.3", pageBy(x, after, n), failed191, 1)
				}
			}
			for _, n := range badPages {
				for _, after := range []int{-1, 0, 5, mostKey - 1, mostKey} {
					r.wantsStill(t, "P19.3", pageBy(x, after, n), failed191, 1)
				}
			}
			for _, n := range []int{1, 2, mostPage - 1, mostPage} {
				r.wantsStill(t, "P19.3", pageBy(x, mostKey, n), last(), 1)
			}
		}
	}
}

// A snapshot that was let go, whose lease another one has now, that nobody took: one line, and nothing is loaded.
func TestSnapshotsThatArent(t *testing.T) {
	for _, there := range []bool{false, true} {
		r := newReal(t, example).do(t, lease(), freeBy(0, 1), lease()) // the lease 0 has the stamp 2
		if there {
			r.do(t, get(1), get(far))
		}
		held := at(0, 2)
		for _, x := range append(notSnapshots(held), at(0, 1)) {
			for _, c := range []api.Call{rangeBy(x, 0, mostKey), rangeBy(x, far, far), countBy(x, 0, mostKey), countBy(x, 5, 5), pageBy(x, -1, 1), pageBy(x, mostKey-1, mostPage), diffBy(x, x), diffBy(x, held)} {
				r.wantsStill(t, "P19.1 to P19.4", c, failed(noSnap), 1)
			}
			totals, err := scan.Fan(r.Store, x, 3)
			if len(totals) != 0 || err != noSnap {
				t.Errorf("P19.5: %+v: %v, %v", x, totals, err)
			}
		}
		if states := r.Load().States(); there != (states[0] == 2) || there != (states[1] == 2) {
			t.Errorf("P19.1 to P19.5: %v", states)
		}
		// The first one is held: its View comes ahead, and loads the part.
		for _, x := range notSnapshots(held) {
			if a := r.by(t, diffBy(held, x)); !sameAnswer(a, failed(noSnap)) || there && a.Own != 5+1 {
				t.Errorf("P19.4: %+v: %+v", x, a)
			}
		}
		if states := r.Load().States(); states[0] != 2 || there != (states[1] == 2) {
			t.Errorf("P19.4: %v", states)
		}
	}
	// One that is being taken is none yet.
	r := newReal(t, example).haltedBy(t, 1, lease(), 2)
	for _, x := range []api.Snap{at(0, 0), at(0, 1)} {
		r.wantsStill(t, "P19.1", rangeBy(x, 0, mostKey), failed(noSnap), 1)
	}
}

// A snapshot that is let go while it is gone through, at each line: what the parts show that were viewed ahead of it, and then an error.
func TestSnapshotGoesMeanwhile(t *testing.T) {
	s := api.Setup{Parts: 3, Workers: 2, Slots: 60, Leases: 2, Source: pairs(1, 10, 2, 20, 1<<31, 30, far, 40)}
	ahead := []api.Call{lease(), rangeBy(at(0, 1), 0, mostKey)}
	x := at(0, 1)
	const first, second, all = 5 + 3, 5 + 1, 5 + 3 + 5 + 1 + 5 + 1
	for line := range all + 1 {
		r := newReal(t, s).do(t, ahead...)
		a, _ := r.broken(t, rangeBy(x, 0, mostKey), line, freeBy(0, 0))
		want, lines := failed(noSnap), 1
		switch {
		case line > first+second:
			want, lines = gave(1, 10, 2, 20, 1<<31, 30, far, 40), all
		case line > first:
			want, lines = failing(noSnap, gave(1, 10, 2, 20, 1<<31, 30)), first+second+1
		case line > 0:
			want, lines = failing(noSnap, gave(1, 10, 2, 20)), first+1
		}
		if !sameAnswer(a, want) || a.Own != lines || r.Pool().Faults() != 0 {
			t.Errorf("P19.1: let go behind %d lines: %+v, want %+v in %d lines", line, a, want, lines)
		}
		r = newReal(t, s).do(t, ahead...)
		a, _ = r.broken(t, countBy(x, 0, mostKey), line, freeBy(0, 0))
		want = failed(noSnap)
		if line > 6+6 {
			want = number(4)
		}
		if !sameAnswer(a, want) {
			t.Errorf("P19.2: let go behind %d lines: %+v, want %+v", line, a, want)
		}
	}
}

// shows: what a plain map has from lo to hi, rising.
func shows(held map[int]int, lo, hi int) []api.Pair {
	var list []api.Pair
	for _, key := range slices.Sorted(maps.Keys(held)) {
		if key >= lo && key <= hi {
			list = append(list, api.Pair{Key: key, Value: held[key]})
		}
	}
	return list
}

// edges: keys at, one below and one past the ends of some parts.
func edges(parts int) []int {
	seen := map[int]int{0: 1, mostKey: 1}
	for _, i := range []int{0, 1, parts / 2, parts - 2, parts - 1} {
		for _, key := range []int{least(i, parts), least(i+1, parts) - 1} {
			for n := -1; n <= 1; n++ {
				if i >= 0 && i < parts && isKey(key+n) {
					seen[key+n]++
				}
			}
		}
	}
	return slices.Sorted(maps.Keys(seen))
}

// sourceAtEdges: keys at both ends of each part, and beside them.
func sourceAtEdges(parts int) []api.Pair {
	var list []api.Pair
	for i := range parts {
		lo, hi := least(i, parts), least(i+1, parts)-1
		list = append(list, pairs(lo, i+1, lo+1, 100+i, hi-1, -i, hi, 1000+i)...)
	}
	return list
}

// From each edge to each edge: the pairs, how many they are, and that just the parts from that of lo to that of hi are loaded for it.
func TestEdgesOfParts(t *testing.T) {
	takesLong(t)
	for _, parts := range []int{1, 2, 3, 5, mostParts} {
		s := api.Setup{Parts: parts, Workers: 1, Slots: 12 * parts, Leases: 1, Source: sourceAtEdges(parts)}
		held := plainly(s.Source)
		for _, lo := range edges(parts) {
			for _, hi := range edges(parts) {
				want := shows(held, lo, hi)
				loaded := make([]int, parts)
				for i := range parts {
					loaded[i] = 2 * bit(lo <= hi && i >= partOf(lo, parts) && i <= partOf(hi, parts))
				}
				r := newReal(t, s)
				x, _ := r.Snap(nil)
				list, err := gathered(scan.Range(r.Store, nil, x, lo, hi), 0)
				if err != api.OK || !slices.Equal(list, want) {
					t.Fatalf("P19.1: %d parts: Range(%d, %d): %v, %v, want %v", parts, lo, hi, list, err, want)
				}
				if states := r.Load().States(); !slices.Equal(states, loaded) {
					t.Fatalf("P19.1: %d parts: Range(%d, %d) loads %v, want %v", parts, lo, hi, states, loaded)
				}
				r = newReal(t, s)
				x, _ = r.Snap(nil)
				if n, err := scan.Count(r.Store, nil, x, lo, hi); err != api.OK || n != len(want) {
					t.Fatalf("P19.2: %d parts: Count(%d, %d): %d, %v, want %d", parts, lo, hi, n, err, len(want))
				}
				if states := r.Load().States(); !slices.Equal(states, loaded) {
					t.Fatalf("P19.2: %d parts: Count(%d, %d) loads %v, want %v", parts, lo, hi, states, loaded)
				}
			}
		}
	}
}

// beside: a store and the model, to both of which the same is done.
type beside struct {
	real
	m *model
}

func newBeside(t *testing.T, s api.Setup, calls ...api.Call) beside {
	t.Helper()
	b := beside{newReal(t, s), newModel(s)}
	b.does(t, "ahead", calls...)
	return b
}

// does holds each call's answer, its lines, and what there is behind it against the model; the last answer is told.
func (b beside) does(t *testing.T, promise string, calls ...api.Call) api.Answer {
	t.Helper()
	var want api.Answer
	for _, c := range calls {
		want = b.m.alone(c)
		if got := b.by(t, c); !sameAnswer(got, want) || got.Own != want.Own {
			t.Fatalf("%s: %+v: %+v, want %+v", promise, c, got, want)
		}
		if is := b.state(); !is.same(b.m.told()) {
			t.Fatalf("%s: behind %+v: %+v, want %+v", promise, c, is, b.m.told())
		}
	}
	return want
}

// The same line by line: which nodes are read, of trees with several keys, behind newer versions.
func TestEdgesOfPartsByLines(t *testing.T) {
	takesLong(t)
	for _, parts := range []int{1, 2, 3, 7} {
		s := api.Setup{Parts: parts, Workers: 1, Slots: 300, Leases: 2, Source: sourceAtEdges(parts)}
		b := newBeside(t, s, lease(), put(0, 7), drop(mostKey), put(5, 5), lease())
		for _, x := range []api.Snap{at(0, 1), at(1, 2)} {
			for _, lo := range edges(parts) {
				for _, hi := range edges(parts) {
					b.does(t, fmt.Sprintf("P19.1, P19.2: %d parts", parts), rangeBy(x, lo, hi), countBy(x, lo, hi))
				}
				b.does(t, fmt.Sprintf("P19.3: %d parts", parts), pageBy(x, lo, 1), pageBy(x, lo, 3), pageBy(x, lo, mostPage))
			}
		}
	}
}

// Pages: behind -1, behind keys that are there and that aren't, of 1, of as many as there are, of one more and one less.
func TestPages(t *testing.T) {
	for _, parts := range []int{1, 2, 3, mostParts} {
		s := api.Setup{Parts: parts, Workers: 1, Slots: 300, Leases: 1, Source: pairs(0, 5, 1, 10, 2, 20, 9, 90, 1<<31-1, 1, 1<<31, 2, far, 3, mostKey, 4)}
		held := plainly(s.Source)
		r := newReal(t, s)
		x, _ := r.Snap(nil)
		for _, after := range []int{-1, 0, 1, 2, 3, 8, 9, 10, 1<<31 - 2, 1<<31 - 1, 1 << 31, far - 1, far, far + 1, mostKey - 1} {
			all := shows(held, after+1, mostKey)
			for _, n := range []int{1, 2, 3, len(all) - 1, len(all), len(all) + 1, mostPage - 1, mostPage} {
				if n < 1 {
					continue
				}
				list, isMore, err := scan.Page(r.Store, nil, x, after, n)
				if err != api.OK || isMore != (len(all) > n) || !slices.Equal(list, all[:min(n, len(all))]) {
					t.Fatalf("P19.3: %d parts: Page(%d, %d): %v, %v, %v, of %v", parts, after, n, list, isMore, err, all)
				}
			}
		}
	}
}

// crowd: a map with so many keys, 3 apart, in one part.
func crowd(t *testing.T, keys int) (real, api.Snap) {
	t.Helper()
	r := newReal(t, api.Setup{Parts: 1, Workers: 1, Slots: mostSlots, Leases: 1})
	var list []api.Pair
	for i := range keys {
		list = append(list, api.Pair{Key: 3 * i, Value: -i})
	}
	if told, err := r.Many(nil, list); err != api.OK || told.Many != keys {
		t.Fatalf("Many: %+v, %v", told, err)
	}
	x, _ := r.Snap(nil)
	return r, x
}

// As great a page as can be, of as many keys as there are, of one more, of one less.
func TestGreatestPages(t *testing.T) {
	for _, keys := range []int{mostPage - 1, mostPage, mostPage + 1, 2000} {
		r, x := crowd(t, keys)
		list, isMore, err := scan.Page(r.Store, nil, x, -1, mostPage)
		if err != api.OK || isMore != (keys > mostPage) || len(list) != min(keys, mostPage) {
			t.Fatalf("P19.3: of %d keys: %d, %v, %v", keys, len(list), isMore, err)
		}
		for i, pair := range list {
			if pair != (api.Pair{Key: 3 * i, Value: -i}) {
				t.Fatalf("P19.3: of %d keys: pair %d is %+v", keys, i, pair)
			}
		}
		list, isMore, err = scan.Page(r.Store, nil, x, 3*(keys-mostPage/2)-1, mostPage)
		if err != api.OK || isMore || len(list) != mostPage/2 || list[0].Key != 3*(keys-mostPage/2) {
			t.Fatalf("P19.3: the last ones of %d keys: %d, %v, %v", keys, len(list), isMore, err)
		}
		if n, err := scan.Count(r.Store, nil, x, 3, 3*keys); n != keys-1 || err != api.OK {
			t.Fatalf("P19.2: of %d keys: %d, %v", keys, n, err)
		}
	}
}

// A Count reads as many nodes as there are on two ways, not all.
func TestCountReadsFew(t *testing.T) {
	r, x := crowd(t, 2000)
	for _, c := range []struct{ lo, hi, want, most int }{{0, mostKey, 2000, 6}, {1, mostKey, 1999, 6 + 13}, {1, 5997, 1999, 5 + 26}, {2998, 3003, 2, 5 + 26}, {5998, mostKey - 1, 0, 5 + 26}} {
		if a := r.by(t, countBy(x, c.lo, c.hi)); a.N != c.want || !a.Ok || a.Own > c.most {
			t.Errorf("P19.2: Count(%d, %d): %+v, want %d in at most %d lines", c.lo, c.hi, a, c.want, c.most)
		}
	}
}

// Diffs: of a snapshot and itself, of two with the same numbers, of an earlier and a later one, both ways round; of parts that were made empty, or were empty; of a key that came, and went again.
func TestDiffs(t *testing.T) {
	const there = 2 * 5 // both Views of a part of which each shows the newest version
	s := api.Setup{Parts: 2, Workers: 1, Slots: 200, Leases: 8, Source: pairs(1, 10, far, 20)}
	r := newReal(t, s).do(t, get(1), get(far), lease(), lease(), put(1, 11), lease(), put(1, 10), lease(), drop(1), lease(), many(1, 5, 2, 6), put(far+1, 1), lease(), drop(1), drop(2), drop(far), lease())
	x := []api.Snap{at(0, 1), at(1, 2), at(2, 3), at(3, 4), at(4, 5), at(5, 6), at(6, 7)}
	for _, c := range []struct {
		x, y int
		want []api.Change
	}{
		{0, 0, nil},
		{0, 1, nil},
		{0, 2, []api.Change{change(1, 10, 11)}},
		{0, 3, nil}, // the number is another one, the value isn't
		{2, 3, []api.Change{change(1, 11, 10)}},
		{0, 4, []api.Change{change(1, 10, lacking)}},
		{4, 5, []api.Change{change(1, lacking, 5), change(2, lacking, 6), change(far+1, lacking, 1)}},
		{0, 5, []api.Change{change(1, 10, 5), change(2, lacking, 6), change(far+1, lacking, 1)}},
		{5, 6, []api.Change{change(1, 5, lacking), change(2, 6, lacking), change(far, 20, lacking)}},
		{4, 6, []api.Change{change(far, 20, lacking), change(far+1, lacking, 1)}},
		{0, 6, []api.Change{change(1, 10, lacking), change(far, 20, lacking), change(far+1, lacking, 1)}},
	} {
		if a := r.by(t, diffBy(x[c.x], x[c.y])); !sameAnswer(a, changed(c.want...)) {
			t.Errorf("P19.4: Diff(%d, %d): %+v, want %v", c.x, c.y, a, c.want)
		}
		if a := r.by(t, diffBy(x[c.y], x[c.x])); !sameAnswer(a, changed(turned(c.want)...)) {
			t.Errorf("P19.4: Diff(%d, %d): %+v, want %v", c.y, c.x, a, turned(c.want))
		}
	}
	// Where the numbers are one nothing is read behind the Views; where they aren't, though all is the same, it is.
	r = newReal(t, s).do(t, get(1), get(far), lease(), lease(), put(1, 11), put(1, 10), lease())
	r.wantsStill(t, "P19.4", diffBy(x[0], x[0]), changed(), 2*(5+4)+there)
	r.wantsStill(t, "P19.4", diffBy(x[0], x[1]), changed(), 2*(5+4)+there)
	r.wantsStill(t, "P19.4", diffBy(x[2], x[2]), changed(), 2*there)
	r.wantsStill(t, "P19.4", diffBy(x[1], x[2]), changed(), 5+4+5+2+there)
	r.wantsStill(t, "P19.4", diffBy(x[2], x[1]), changed(), 5+4+5+2+there)
}

// turned: changes the other way round.
func turned(list []api.Change) []api.Change {
	var other []api.Change
	for _, c := range list {
		other = append(other, api.Change{Key: c.Key, Old: c.New, Had: c.Has, New: c.Old, Has: c.Had})
	}
	return other
}

// The numbers of versions tell whether a part is gone through, not the roots: by versions that were laid by hand.
func TestDiffGoesByNumbers(t *testing.T) {
	s := api.Setup{Parts: 1, Workers: 1, Slots: 60, Leases: 4, Source: pairs(1, 10)}
	r := newReal(t, s).do(t, get(1), lease(), slot(0, 5, 50, 1), publish(0, word(3, 1), 1), lease(), publish(0, word(3, 1), 9), lease())
	r.wantsStill(t, "P19.4: one number, another root", diffBy(at(0, 1), at(1, 2)), changed(), 5+4+5+2)
	r.wantsStill(t, "P19.4: one root, another number", diffBy(at(1, 2), at(2, 3)), changed(), 5+2+5)
	r.wantsStill(t, "P19.4: neither", diffBy(at(0, 1), at(2, 3)), changed(change(1, 10, lacking), change(5, lacking, 50)), 5+4+5+2)
}

// Keys that aren't a part's own, in a tree that was laid by hand: a Range gives of each part its own keys alone, and a Count goes by ranks.
func TestKeysOfOtherParts(t *testing.T) {
	s := api.Setup{Parts: 2, Workers: 1, Slots: 60, Leases: 4}
	r := newReal(t, s).do(t, get(1), get(far), slot(0, 5, 50, 1), slot(0, far, 40, 1), slot(0<<6+31+1, word(3, 1), word(4, 1), 2), publish(0, word(5, 1), 2), publish(1, word(5, 1), 2), lease())
	x := at(0, 1)
	r.wantsStill(t, "P19.1", rangeBy(x, 0, mostKey), gave(5, 50, far, 40), 5+2+5+2)
	r.wantsStill(t, "P19.1", rangeBy(x, 0, 1<<31-1), gave(5, 50), 5+2)
	r.wantsStill(t, "P19.1", rangeBy(x, 1<<31, mostKey), gave(far, 40), 5+2)
	r.wantsStill(t, "P19.1", rangeBy(x, 6, far-1), gave(), 5+2+5+2)
	r.wantsStill(t, "P19.2", countBy(x, 0, mostKey), number(4), 5+1+5+1)
	r.wantsStill(t, "P19.2", countBy(x, 6, far-1), number(1+1), 5+2+1+5+2)
}
