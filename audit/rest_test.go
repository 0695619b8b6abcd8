package audit_test

import (
	"fmt"
	"testing"

	"skein/api"
	"skein/crew"
)

// P23.3: Rest, one condition at a time: each of them alone makes it false, and it is true without it.
func TestRestOfWhoIsWithin(t *testing.T) {
	for _, workers := range []int{1, 2, 8} {
		for k := range workers {
			m := afterOf(t, api.Setup{Parts: 2, Workers: workers, Slots: 20, Leases: 2, Source: pairs(1, 10)}, get(1))
			wantRest(t, "P23.3", m, true)
			byWorker(t, k, func(w *crew.Worker) { m.Epoch().Enter(w) })
			wantRest(t, fmt.Sprintf("P23.3: worker %d is within", k), m, false)
			byWorker(t, k, func(w *crew.Worker) { m.Epoch().Leave(w) })
			wantRest(t, fmt.Sprintf("P23.3: worker %d has left", k), m, true)
		}
	}
}

// P23.3: what waits, by whichever worker, be it a handle or not.
func TestRestOfWhatWaits(t *testing.T) {
	for k := range 3 {
		for _, h := range []int{0, 1, -1, handle(1, 1), handle(3, 1), handle(3, 0), handle(5, 7), highest} {
			m := after(t, get(1))
			byWorker(t, k, func(w *crew.Worker) { m.Epoch().Retire(w, h) })
			wantRest(t, fmt.Sprintf("P23.3: %d waits for worker %d", h, k), m, false)
			if h == handle(1, 1) {
				continue // a node's, which isn't to be given back
			}
			m.Advance(nil)
			m.Advance(nil)
			wantRest(t, fmt.Sprintf("P23.3: %d waits for worker %d", h, k), m, false)
			byWorker(t, k, func(w *crew.Worker) { m.Collect(w) })
			wantRest(t, fmt.Sprintf("P23.3: %d doesn't wait for worker %d", h, k), m, true)
		}
	}
}

// P23.3: leases: each of them, held, named, or being taken.
func TestRestOfLeases(t *testing.T) {
	for _, leases := range []int{1, 3, 64} {
		m := newMap(t, api.Setup{Parts: 1, Workers: 1, Slots: 20, Leases: leases})
		var list []api.Snap
		for range leases {
			list = append(list, must[api.Snap](t)(m.Snap(nil)))
			wantRest(t, "P23.3: a lease is held", m, false)
		}
		for i, x := range list {
			m.Free(nil, x)
			wantRest(t, fmt.Sprintf("P23.3: %d leases are held", leases-i-1), m, i == leases-1)
		}
		for _, x := range list[:leases-1] {
			must[api.Snap](t)(m.Snap(nil))
			_ = x
		}
		last := must[api.Snap](t)(m.Snap(nil))
		for _, x := range list[:leases-1] {
			m.Free(nil, x)
		}
		wantRest(t, "P23.3: the last lease is held", m, false)
		m.Free(nil, last)
		wantRest(t, "P23.3: no lease is held", m, true)
	}
	m := after(t, get(1), snap(0), name(7, 0))
	wantRest(t, "P23.3: a name", m, false)
	do(t, m, unname(7))
	wantRest(t, "P23.3: no name", m, true)
	haltedBy(t, 1, 1, func(w *crew.Worker) { m.Snap(w) })
	wantRest(t, "P23.3: a lease is being taken", m, false)
	m.Clock().Release(nil, 0)
	wantRest(t, "P23.3: it isn't any more", m, true)
}

// P23.3: a second version, of whichever part.
func TestRestOfOldVersions(t *testing.T) {
	for part, key := range []int{1, far} {
		m := after(t, get(1), get(far), put(key, 5))
		wantRest(t, "P23.3: two versions", m, false)
		h := m.Chain(part).Versions()[0]
		older, set, err := m.Chain(part).Cut(nil, h)
		if err != api.OK || len(set) != 1 {
			t.Fatalf("Cut: %d, %v, %v", older, set, err)
		}
		// Cut off by hand they are nobody's, till they are given back.
		wantRest(t, "P23.3: one is cut off", m, false)
		m.Pool().Give(nil, older)
		wantRest(t, "P23.3: its node is nobody's", m, false)
		m.Pool().Give(nil, set[0])
		wantRest(t, "P23.3: one version", m, true)
	}
	// Two versions without anything that one of them had alone.
	m := after(t, get(1))
	h, _, err := m.Chain(0).Top(nil)
	n := must[api.Node](t)(m.Pool().Read(nil, h))
	if _, ok, err := m.Chain(0).Push(nil, h, api.Node{A: n.A, B: 2}, nil); !ok || err != api.OK {
		t.Fatalf("Push: %t, %v", ok, err)
	}
	if err != api.OK {
		t.Fatal(err)
	}
	wantUses(t, "P23.1", m, node(0, 1, 2), version(0, 1), version(0, 2))
	wantRest(t, "P23.3: two versions", m, false)
	wantLeast(t, "P23.3: two versions", m, 2)
	wantTrims(t, "P23.3: an empty set", m, 1, 0)
}

// P23.3: a slot for something else: in use, or of an even generation and not in the pile.
func TestRestOfSlotsForSomethingElse(t *testing.T) {
	m := after(t, get(1))
	h := must[int](t)(m.Pool().Take(nil, api.Node{}, 0))
	wantRest(t, "P23.3: a slot that was taken by hand", m, false)
	wantLeast(t, "P23.3: a slot that was taken by hand", m, 2)
	haltedBy(t, 1, 1, func(w *crew.Worker) { m.Pool().Give(w, h) })
	wantRest(t, "P23.3: one that is being given back", m, false)
	m.Pool().Back(nil, 3, 2)
	wantRest(t, "P23.3: it is back", m, true)
}

// P23.3: what isn't among Rest's conditions doesn't bear on it: that a part isn't there, that it is being loaded, that slots are free, names' absence, how far the epoch and the clock are.
func TestRestOfAllElse(t *testing.T) {
	m := after(t, get(1))
	haltedBy(t, 1, 2, func(w *crew.Worker) { m.Load().Ready(w, 1) })
	if m.Load().States()[1] != 1 {
		t.Fatalf("%v", m.Load().States())
	}
	wantRest(t, "P23.3: a part is being loaded", m, true)
	for range 5 {
		m.Advance(nil)
		m.Free(nil, must[api.Snap](t)(m.Snap(nil)))
	}
	wantRest(t, "P23.3: at a later epoch and a later stamp", m, true)
	m.Pool().Read(nil, handle(9, 1)) // a fault
	wantRest(t, "P23.3: behind a fault", m, true)
	full := afterOf(t, api.Setup{Parts: 1, Workers: 1, Slots: 2, Leases: 1, Source: pairs(1, 1)}, get(1))
	wantRest(t, "P23.3: a full pool", full, true)
	wantLeast(t, "P23.3: a full pool", full, 2)
	full = afterOf(t, api.Setup{Parts: 1, Workers: 1, Slots: 1, Leases: 1}, get(1))
	wantRest(t, "P23.3: a full pool of one", full, true)
	wantLeast(t, "P23.3: a full pool of one", full, 1)
}

// P23.3: Least counts the newest versions and their nodes, of all parts, whatever else there is.
func TestLeast(t *testing.T) {
	m := after(t)
	wantLeast(t, "P23.3: nothing is loaded", m, 0)
	do(t, m, get(1))
	wantLeast(t, "P23.3: a version and a leaf", m, 2)
	do(t, m, get(far))
	wantLeast(t, "P23.3: of both parts", m, 4)
	do(t, m, put(1, 11), put(1, 12))
	wantLeast(t, "P23.3: old versions don't count", m, 4)
	do(t, m, put(2, 2), put(3, 3))
	wantLeast(t, "P23.3: three keys more nodes", m, 8)
	do(t, m, snap(0), many(4, 4, 5, 5))
	wantLeast(t, "P23.3: five keys", m, 12)
	do(t, m, drop(far))
	wantLeast(t, "P23.3: an empty part", m, 11)
	must[int](t)(m.Pool().Take(nil, api.Node{}, 0))
	m.Epoch().Retire(nil, m.Chain(0).Versions()[0])
	byWorker(t, 1, func(w *crew.Worker) { m.Epoch().Enter(w) })
	wantLeast(t, "P23.3: whatever else there is", m, 11)
}
