package audit_test

import (
	"fmt"
	"slices"
	"testing"

	"skein/api"
	"skein/audit"
	"skein/crew"
	"skein/store"
)

// retires does a Trim alone: how many handles wait by it.
func retires(m *store.Store, part int) int {
	was := len(m.Epoch().Waiting(0))
	m.Trim(nil, part)
	return len(m.Epoch().Waiting(0)) - was
}

// P23.3: Trims by hand: of parts with one version and with many, with leases held and without.
func TestTrims(t *testing.T) {
	m := after(t)
	wantTrims(t, "P23.3: nobody came", m, 0, 0)
	do(t, m, get(1))
	wantTrims(t, "P23.3: one version", m, 0, 0)
	do(t, m, put(1, 11))
	wantTrims(t, "P23.3: a version and a leaf", m, 2, 0)
	do(t, m, put(far, 21), put(far, 22), put(far+1, 23))
	// far's: the first leaf and version, the second ones, and the third version, whose leaf stays.
	wantTrims(t, "P23.3: two parts", m, 2, 5)
	wantTrims(t, "P23.3: asked again", m, 2, 5)
	do(t, m, put(1, 11))
	wantTrims(t, "P23.3: a Put that changes nothing", m, 2, 5)
	do(t, m, trim(1))
	wantTrims(t, "P23.3: behind a Trim", m, 2, 0)
	do(t, m, put(far, 25))
	// The version 4 did without nothing; now the leaf of far and the root are old, and it.
	wantTrims(t, "P23.3: another version", m, 2, 3)
}

// P23.3: what a lease shows isn't trimmed, nor what is newer; which lease is the least one counts.
func TestTrimsBelowLeases(t *testing.T) {
	m := after(t, put(1, 11), snap(0), put(1, 12), put(1, 13))
	x := api.Snap{Lease: 0, Stamp: 1}
	wantTrims(t, "P23.3: below a lease", m, 2, 0)
	y := must[api.Snap](t)(m.Snap(nil)) // it shows 13's
	do(t, m, put(1, 14))
	wantTrims(t, "P23.3: below the least of two leases", m, 2, 0)
	m.Free(nil, x)
	wantTrims(t, "P23.3: below the other one", m, 6, 0)
	m.Free(nil, y)
	wantTrims(t, "P23.3: without a lease", m, 8, 0)
	// A named snapshot's lease is held.
	do(t, m, snap(1), name(7, 1), put(1, 15))
	wantTrims(t, "P23.3: below a name", m, 8, 0)
	do(t, m, unname(7))
	wantTrims(t, "P23.3: without the name", m, 10, 0)
}

// P23.3: while a lease is being taken nothing would be trimmed.
func TestTrimsWhileALeaseIsTaken(t *testing.T) {
	for lines := 1; lines <= 4; lines++ {
		m := after(t, put(1, 11), put(1, 12))
		haltedBy(t, 1, lines, func(w *crew.Worker) { m.Snap(w) })
		// Behind its third line the lease is held, at a stamp which both versions are not above.
		want := 0
		if lines >= 3 {
			want = 4
		}
		wantTrims(t, fmt.Sprintf("P23.3: %d lines of a Snap", lines), m, want, 0)
		if n := retires(m, 0); n != want {
			t.Errorf("P23.7: %d lines of a Snap: the Trim retires %d, want %d", lines, n, want)
		}
	}
}

// P23.3: who is within, and what waits, doesn't matter.
func TestTrimsWhileSomebodyIsWithin(t *testing.T) {
	m := after(t, put(1, 11))
	byWorker(t, 2, func(w *crew.Worker) { m.Epoch().Enter(w) })
	wantTrims(t, "P23.3: worker 2 is within", m, 2, 0)
	m.Epoch().Enter(nil)
	wantTrims(t, "P23.3: worker 0 is within", m, 2, 0)
	m.Epoch().Retire(nil, handle(1, 1))
	wantTrims(t, "P23.3: by hand a handle waits that would be retired", m, 2, 0)
}

// P23.3: a newest version that has no stamp gets that of now: so a lease may be below it.
func TestTrimsOfANewestVersionWithoutAStamp(t *testing.T) {
	lines := linesOf(t, plain, get(1)) + 14 // of the Put up to its cas
	for _, x := range []struct {
		of    int // lines of the Snap
		moved bool
		want  int
	}{{0, false, 2}, {3, false, 2}, {4, false, 2}, {5, true, 0}} {
		c := work([]api.Call{get(1), put(1, 11)}, []api.Call{snap(0)})
		c.Turns = append(make([]int, lines), slices.Repeat([]int{1}, x.of)...)
		c.Until = lines + x.of
		m, _ := ran(t, plain, c)
		if now := m.Clock().Now(nil); m.Pool().Slots()[3].Mark != 0 || (now > 1) != x.moved {
			t.Fatalf("P23.3: now is %d, %+v", now, m.Pool().Slots())
		}
		wantTrims(t, fmt.Sprintf("P23.3: %d lines of a Snap", x.of), m, x.want, 0)
		if n := retires(m, 0); n != x.want {
			t.Errorf("P23.7: %d lines of a Snap: the Trim retires %d, want %d", x.of, n, x.want)
		}
	}
}

// P23.3: a Trim that is halted has cut what nobody else cuts: what it has still to cut is told by no version's link.
func TestTrimsBehindOpenCuts(t *testing.T) {
	ahead := []api.Call{get(1), put(1, 11), put(1, 12), put(1, 13)}
	lines := linesOf(t, plain, ahead...)
	whole := linesOf(t, plain, append(slices.Clone(ahead), trim(0))...)
	told := map[int]int{}
	for n := lines; n <= whole; n++ {
		c := api.Case{Work: [][]api.Call{append(slices.Clone(ahead), trim(0))}, Halt: []int{n}}
		m, _ := ran(t, plain, c)
		want := 6
		if n >= lines+8 { // Enter 2, Least 3, At 2: then the first Cut
			want = 0
		}
		wantTrims(t, fmt.Sprintf("P23.3: behind %d lines of a Trim", n-lines), m, want, 0)
		told[want]++
		// Another version upon it: its own set and the one ahead.
		byWorker(t, 1, func(w *crew.Worker) { m.Put(w, 1, 14) })
		wantTrims(t, fmt.Sprintf("P23.3: behind %d lines of a Trim, and a Put", n-lines), m, want+2, 0)
		lawful(t, m, 1)
		byWorker(t, 1, func(w *crew.Worker) { m.Trim(w, 0) })
		if n := len(m.Epoch().Waiting(1)); n != want+2 {
			t.Errorf("P23.7: the Trim retires %d, want %d", n, want+2)
		}
		wantTrims(t, "P23.7: behind a Trim", m, 0, 0)
	}
	if told[0] < 5 || told[6] < 5 {
		t.Errorf("the cases are too plain: %v", told)
	}
}

// P23.3: as many answers as there are parts, of all sizes.
func TestTrimsOfManyParts(t *testing.T) {
	takesLong(t)
	for _, parts := range []int{1, 2, 3, 63, 64} {
		m := newMap(t, api.Setup{Parts: parts, Workers: 1, Slots: 4096, Leases: 1})
		var want []int
		for part := range parts {
			least := part * (1 << 32) / parts
			if part > 0 {
				least++
			}
			for i := range part {
				do(t, m, put(least, i))
			}
			// The empty version, and of each further one a leaf and a version.
			want = append(want, max(0, 2*part-1))
			if part < 3 || part%20 == 0 { // of so many slots it takes long
				wantTrims(t, "P23.3", m, append(slices.Clone(want), make([]int, parts-len(want))...)...)
			}
		}
		for part := range parts {
			if n := retires(m, part); n != want[part] {
				t.Errorf("P23.7: part %d of %d: the Trim retires %d, want %d", part, parts, n, want[part])
			}
			want[part] = 0
			if part < 3 || part%20 == 0 {
				wantTrims(t, "P23.7", m, want...)
			}
		}
	}
}

// A chain with as many versions as a pool may have, whose sets are told one by one: it ends soon enough.
func TestTrimsOfALongChain(t *testing.T) {
	m := newMap(t, api.Setup{Parts: 1, Workers: 1, Slots: 4096, Leases: 1})
	for i := range 2047 {
		do(t, m, put(1, i))
	}
	wantTrims(t, "P23.3", m, 2*2047-1)
	wantLeast(t, "P23.3", m, 2)
	if n := audit.Sums(audit.Uses(m)); n != (api.Sums{Free: 1, Versions: 2048, Nodes: 2047}) {
		t.Errorf("P23.2: %+v", n)
	}
	if n := retires(m, 0); n != 2*2047-1 {
		t.Errorf("P23.7: %d", n)
	}
}
