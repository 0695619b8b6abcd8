package audit_test

import (
	"fmt"
	"testing"

	"skein/api"
	"skein/audit"
	"skein/crew"
)

// P23.1: of a map to which nobody came every slot is free, however many there are.
func TestUsesOfANewMap(t *testing.T) {
	for _, slots := range []int{1, 2, 20, 4096} {
		for _, parts := range []int{1, 64} {
			m := newMap(t, api.Setup{Parts: parts, Workers: 1, Slots: slots, Leases: 1, Source: pairs(1, 10, far, 20)})
			wantUses(t, "P23.1", m)
			wantTrims(t, "P23.3", m, make([]int, parts)...)
			wantLeast(t, "P23.3", m, 0)
			wantRest(t, "P23.3", m, true)
			if n := audit.Sums(audit.Uses(m)); n != (api.Sums{Free: slots}) {
				t.Errorf("P23.2: %+v, want %d", n, slots)
			}
		}
	}
}

// P23.1: versions: their part, and their number as From and To.
func TestUseVersion(t *testing.T) {
	bare := plain
	bare.Source = nil
	// Parts that are loaded, and empty: a version, whose root is none.
	m := afterOf(t, bare, get(far))
	wantUses(t, "P23.1", m, version(1, 1))
	do(t, m, get(1))
	wantUses(t, "P23.1", m, version(1, 1), version(0, 1))
	wantLeast(t, "P23.3", m, 2)
	// With a key; without it again: its leaf only an old version has.
	do(t, m, put(1, 5))
	wantUses(t, "P23.1", m, version(1, 1), version(0, 1), node(0, 2, 2), version(0, 2))
	do(t, m, drop(1))
	wantUses(t, "P23.1", m, version(1, 1), version(0, 1), node(0, 2, 2), version(0, 2), version(0, 3))
	wantLeast(t, "P23.3", m, 2)
	wantTrims(t, "P23.3", m, 3, 0)
	do(t, m, trim(0))
	wantUses(t, "P23.1", m, version(1, 1), waits(0), waits(0), waits(0), version(0, 3))
}

// P23.1: nodes: the least and the greatest number of those versions that have them.
func TestUseNode(t *testing.T) {
	// A leaf 1; a leaf 2 and the inner node of both; a leaf 3, the inner node of 2 and 3, and the root anew.
	m := after(t, get(1), put(2, 2), put(3, 3))
	want := []api.Use{
		node(0, 1, 3), version(0, 1),
		node(0, 2, 3), node(0, 2, 2), version(0, 2),
		node(0, 3, 3), node(0, 3, 3), node(0, 3, 3), version(0, 3),
	}
	wantUses(t, "P23.1", m, want...)
	wantLeast(t, "P23.3", m, 6)
	wantTrims(t, "P23.3", m, 3, 0)
	// Another part's nodes count by its own versions.
	do(t, m, get(far), put(far, 1))
	wantUses(t, "P23.1", m, append(want, node(1, 1, 1), version(1, 1), node(1, 2, 2), version(1, 2))...)
	// Behind a Drop the leaf and the inner nodes are old ones' alone; the other leaves stay.
	do(t, m, drop(3))
	want[0], want[2] = node(0, 1, 4), node(0, 2, 4)
	wantUses(t, "P23.1", m, append(want, node(1, 1, 1), version(1, 1), node(1, 2, 2), version(1, 2), node(0, 4, 4), version(0, 4))...)
	// Below what is cut off nothing counts any more.
	do(t, m, trim(0))
	wantUses(t, "P23.1", m,
		node(0, 4, 4), waits(0),
		node(0, 4, 4), waits(0), waits(0),
		waits(0), waits(0), waits(0), waits(0),
		node(1, 1, 1), version(1, 1), node(1, 2, 2), version(1, 2), node(0, 4, 4), version(0, 4),
	)
}

// P23.1, P23.6: parts with one key, and with many.
func TestUsesOfManyKeys(t *testing.T) {
	for keys := range 40 {
		s := api.Setup{Parts: 1, Workers: 1, Slots: 200, Leases: 1}
		for i := range keys {
			s.Source = append(s.Source, api.Pair{Key: i * i * 977, Value: i})
		}
		m := afterOf(t, s, get(5))
		want := api.Sums{Free: 200 - max(1, 2*keys), Versions: 1, Nodes: max(0, 2*keys-1)}
		if n := audit.Sums(audit.Uses(m)); n != want {
			t.Errorf("P23.6: %d keys: %+v, want %+v", keys, n, want)
		}
		wantLeast(t, "P23.3", m, want.Versions+want.Nodes)
		for i, x := range audit.Uses(m) {
			if x != isFree && x != version(0, 1) && x != node(0, 1, 1) {
				t.Errorf("P23.1: %d keys: slot %d: %+v", keys, i+1, x)
			}
		}
		lawful(t, m, 0)
		// A version more has all nodes but those that it changed.
		do(t, m, put(5, 5))
		lawful(t, m, 0)
		shared := count(audit.Uses(m), func(x api.Use) bool { return x == node(0, 1, 2) })
		own := count(audit.Uses(m), func(x api.Use) bool { return x == node(0, 2, 2) })
		if shared+own != 2*(keys+1)-1 || own < 1 {
			t.Errorf("P23.1: %d keys: %d nodes are both versions', %d the second one's", keys, shared, own)
		}
	}
}

// P23.1: what waits: by the least worker of those whose lists bear the handle.
func TestUseWaiting(t *testing.T) {
	m := after(t, get(1), put(1, 11))
	byWorker(t, 2, func(w *crew.Worker) { m.Trim(w, 0) })
	wantUses(t, "P23.1", m, waits(2), waits(2), node(0, 2, 2), version(0, 2))
	do(t, m, put(1, 12))
	byWorker(t, 1, func(w *crew.Worker) { m.Trim(w, 0) })
	want := []api.Use{waits(2), waits(2), waits(1), waits(1), node(0, 3, 3), version(0, 3)}
	wantUses(t, "P23.1", m, want...)
	// By hand a handle comes into several lists.
	byWorker(t, 2, func(w *crew.Worker) { m.Epoch().Retire(w, handle(3, 1)) })
	wantUses(t, "P23.1", m, want...)
	byWorker(t, 1, func(w *crew.Worker) { m.Epoch().Retire(w, handle(1, 1)) })
	want[0] = waits(1)
	wantUses(t, "P23.1", m, want...)
	byWorker(t, 0, func(w *crew.Worker) { m.Epoch().Retire(w, handle(1, 1)) })
	want[0] = waits(0)
	wantUses(t, "P23.1", m, want...)
	// And twice into one.
	byWorker(t, 2, func(w *crew.Worker) { m.Epoch().Retire(w, handle(2, 1)) })
	wantUses(t, "P23.1", m, want...)
	holds(t, "P23.1", m)
}

// P23.1: what waited is free when it was given back, and something else when it was taken again.
func TestUsesOfWhatWasGivenBack(t *testing.T) {
	m := after(t, get(1), put(1, 11), trim(0), advance(), advance(), collect())
	wantUses(t, "P23.1", m, isFree, isFree, node(0, 2, 2), version(0, 2))
	do(t, m, put(1, 12))
	wantUses(t, "P23.1", m, version(0, 3), node(0, 3, 3), node(0, 2, 2), version(0, 2))
	do(t, m, get(far))
	wantUses(t, "P23.1", m, version(0, 3), node(0, 3, 3), node(0, 2, 2), version(0, 2), node(1, 1, 1), version(1, 1))
}

// P23.1: what a write has taken, and hasn't published, is for something else; likewise what is being given back.
func TestUseOther(t *testing.T) {
	s := plain
	// Get's lines up to its part's being there; then of the Put: Wait 1, Enter 2, Top 2, Read 1, the trie's Read 1, Take 3, Push's Take 3, its cas 1.
	loaded := linesOf(t, s, get(1))
	there := []api.Use{node(0, 1, 1), version(0, 1)}
	for _, x := range []struct {
		lines int
		want  []api.Use
	}{
		{7, nil},
		{9, nil},
		{10, []api.Use{isOther}},
		{12, []api.Use{isOther}},
		{13, []api.Use{isOther, isOther}},
		{14, []api.Use{node(0, 2, 2), version(0, 2)}},
	} {
		for _, halts := range []bool{true, false} {
			c := work([]api.Call{get(1), put(1, 11)})
			if halts {
				c.Halt = []int{loaded + x.lines}
			} else {
				c.Until = loaded + x.lines
			}
			m, run := ran(t, s, c)
			if len(run.Open) != 1 {
				t.Fatalf("P23.1: %d lines: %+v", x.lines, run)
			}
			wantUses(t, fmt.Sprintf("P23.1: %d lines of a Put", x.lines), m, append(append([]api.Use{}, there...), x.want...)...)
			wantRest(t, "P23.3", m, false)
		}
	}
	// A loading: State's lines 2, a leaf's Take 3, First's Take 3, its CasMark, its cas.
	for _, x := range []struct {
		lines int
		want  []api.Use
	}{{2, nil}, {4, nil}, {5, []api.Use{isOther}}, {7, []api.Use{isOther}}, {8, []api.Use{isOther, isOther}}, {9, []api.Use{isOther, isOther}}, {10, there}} {
		m, _ := ran(t, s, api.Case{Work: [][]api.Call{{get(1)}}, Until: x.lines})
		wantUses(t, fmt.Sprintf("P23.1: %d lines of a loading", x.lines), m, x.want...)
	}
	// A Trim: Enter 2, Least 3, At 2, Cut 1, Retire 2, Cut 1, Leave 1; a Collect: 1, of each handle Give's 1 and Push's 3.
	ahead := []api.Call{get(1), put(1, 11), trim(0), advance(), advance(), collect()}
	lines := linesOf(t, s, ahead[:2]...)
	rest := linesOf(t, s, ahead[:5]...)
	newest := []api.Use{node(0, 2, 2), version(0, 2)}
	for _, x := range []struct {
		lines int
		want  []api.Use
	}{
		{lines + 7, []api.Use{node(0, 1, 1), version(0, 1)}},
		{lines + 8, []api.Use{isOther, isOther}}, // cut off, and in no list yet
		{lines + 9, []api.Use{waits(0), isOther}},
		{lines + 10, []api.Use{waits(0), waits(0)}},
		{rest + 1, []api.Use{waits(0), waits(0)}},
		{rest + 2, []api.Use{isOther, waits(0)}}, // its generation is even, and it isn't in the pile yet
		{rest + 4, []api.Use{isOther, waits(0)}},
		{rest + 5, []api.Use{isFree, waits(0)}},
		{rest + 6, []api.Use{isFree, isOther}},
		{rest + 8, []api.Use{isFree, isOther}},
	} {
		m, _ := ran(t, s, api.Case{Work: [][]api.Call{ahead}, Halt: []int{x.lines}})
		wantUses(t, fmt.Sprintf("P23.1: %d lines", x.lines), m, append(x.want, newest...)...)
	}
}

// P23.1: a slot that was popped, and isn't in use yet, there is not: it is in use with the last line of the Take. What was given back isn't free ahead of the last line of the Give.
func TestUsesOfTakesAndGives(t *testing.T) {
	m := newMap(t, plain)
	haltedBy(t, 0, 2, func(w *crew.Worker) { m.Pool().Take(w, api.Node{}, 0) })
	wantUses(t, "P23.1", m)
	h := must[int](t)(m.Pool().Take(nil, api.Node{}, 0))
	wantUses(t, "P23.1", m, isOther)
	haltedBy(t, 0, 3, func(w *crew.Worker) { m.Pool().Give(w, h) })
	wantUses(t, "P23.1", m, isOther)
	// That one is lost, and is nobody's, till it is laid back.
	m.Pool().Back(nil, 1, 2)
	wantUses(t, "P23.1", m)
}
