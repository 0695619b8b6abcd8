package store_test

import (
	"slices"
	"testing"

	"skein/api"
	"skein/store"
)

// Snap takes the first lease that is free; Free lets go of a lease by its number, whatever the stamp.
func TestSnapAndFree(t *testing.T) {
	r := after(t)
	r.wants(t, "P18.3", lease(), held(0, 1), 5)
	r.wants(t, "P18.3", lease(), held(1, 2), 6)
	r.wantsStill(t, "P18.3", lease(), failed(noLeases), 2)
	r.wants(t, "P18.3", freeBy(0, 1), good(), 1)
	r.wantsStill(t, "P18.3", freeBy(0, 1), failed(noLease), 1)
	r.wants(t, "P18.3", lease(), held(0, 3), 5)
	for _, n := range append(slices.Clone(badLeases), 2) {
		if n != 0 {
			r.wantsStill(t, "P18.3", freeBy(n, 3), failed(noLease), 1)
		}
	}
	r.wants(t, "P18.3", freeBy(1, -7), good(), 1)
	r.wants(t, "P18.3", freeBy(0, highest), good(), 1)
	if is := r.state(); slices.Max(is.leases) != 0 || is.stamp != 4 {
		t.Errorf("P18.3: %+v", is)
	}
	// As many as can be, and then none.
	s := plain
	s.Leases = mostLeases
	r = newReal(t, s)
	for i := range mostLeases {
		r.wants(t, "P18.3", lease(), held(i, i+1), 5+i)
	}
	r.wantsStill(t, "P18.3", lease(), failed(noLeases), mostLeases)
}

// A snapshot that nobody took, that was freed, whose lease another one has now: none of them is held.
func TestSnapshotsThatArent(t *testing.T) {
	r := after(t, get(1), get(far), lease(), freeBy(0, 1), lease()) // the lease 0 has the stamp 2
	wants := func(lease, stamp int) {
		t.Helper()
		r.wantsStill(t, "P18.3", view(lease, stamp, 0), failed(noSnap), 1)
		r.wantsStill(t, "P18.3", view(lease, stamp, 1), failed(noSnap), 1)
		r.wantsStill(t, "P18.3", peekBy(lease, stamp, 1), failed(noSnap), 1)
		r.wantsStill(t, "P18.3", peekBy(lease, stamp, far), failed(noSnap), 1)
	}
	for _, n := range append(slices.Clone(badLeases), 1, 2, 63) {
		if n != 0 {
			wants(n, 2)
		}
		if n != 2 {
			wants(0, n)
		}
		wants(n, n)
	}
	r.wants(t, "P18.3", peekBy(0, 2, 1), whole(api.Told{Value: 10, Had: true, Number: 1}, api.OK), 6)
	// One that is being taken is none yet.
	r = after(t, get(1)).haltedBy(t, 1, lease(), 2)
	wants(0, 0)
	wants(0, 1)
	// Of a part that isn't there it is looked at ahead of the loading.
	r = after(t)
	wants(0, 1)
	if is := r.state(); slices.Max(is.states) != 0 {
		t.Errorf("P18.3: %v", is.states)
	}
}

// A part that there isn't: a line, ahead of all else.
func TestPartsThatArent(t *testing.T) {
	for _, parts := range []int{1, 2, mostParts} {
		s := api.Setup{Parts: parts, Workers: 2, Slots: 9, Leases: 1}
		r := newReal(t, s).do(t, lease())
		for _, n := range append(slices.Clone(badParts), parts) {
			if n >= 0 && n < parts {
				continue
			}
			r.wantsStill(t, "P18.3", view(0, 1, n), failed(noPart), 1)
			r.wantsStill(t, "P18.3", view(5, 9, n), failed(noPart), 1)
			r.wantsStill(t, "P18.6", trim(n), failed(noPart), 1)
			if a := r.byWorker(t, 2, trim(n)); a.Err != noPart || a.Own != 1 {
				t.Errorf("P18.6: Trim(%d) by a worker that the epoch doesn't know: %+v", n, a)
			}
		}
		r.wants(t, "P18.3", view(0, 1, parts-1), api.Answer{Ok: true, M: 1}, 1+2+5+1+2+1)
	}
}

// View tells the root and the number of what the snapshot shows: two lines more for each version that is newer.
func TestView(t *testing.T) {
	r := after(t, get(1), lease()) // slot 1 is the leaf of 1, slot 2 the version
	r.wantsStill(t, "P18.3", view(0, 1, 0), api.Answer{Ok: true, N: word(1, 1), M: 1}, 5)
	root := word(1, 1)
	for newer := range 6 {
		r.wantsStill(t, "P18.3", view(0, 1, 0), api.Answer{Ok: true, N: root, M: 1}, 5+2*newer)
		r.wantsStill(t, "P18.3", peekBy(0, 1, 1), whole(api.Told{Value: 10, Had: true, Number: 1}, api.OK), 6+2*newer)
		r.wantsStill(t, "P18.3", peekBy(0, 1, 3), whole(api.Told{Number: 1}, api.OK), 6+2*newer)
		r.do(t, put(1, 20+newer))
	}
	r.wants(t, "P18.3", lease(), held(1, 2), 6)
	a := r.by(t, view(1, 2, 0))
	if v := r.Chain(0).Versions()[0]; a.M != 7 || a.Own != 5 || a.N != r.state().slot(v).Node.A {
		t.Errorf("P18.3: %+v", a)
	}
	// Of an empty part the root is 0, and Find has a line.
	r = newReal(t, api.Setup{Parts: 1, Workers: 1, Slots: 3, Leases: 1}).do(t, lease(), get(5))
	r.wantsStill(t, "P18.3", view(0, 1, 0), api.Answer{Ok: true, M: 1}, 5)
	r.wantsStill(t, "P18.3", peekBy(0, 1, 5), whole(api.Told{Number: 1}, api.OK), 6)
}

// A version that isn't settled yet gets its stamp from whoever looks first: the snapshot is older, so it shows the one ahead.
func TestPeekSettles(t *testing.T) {
	r := after(t, get(1), lease())
	r.haltedBy(t, 1, put(1, 11), 1+2+2+1+1+3+4) // published, and not settled
	if is := r.state(); is.slot(is.versions[0][0]).Mark != 0 || len(is.versions[0]) != 2 {
		t.Fatalf("%+v", is)
	}
	r.wants(t, "P18.3", peekBy(0, 1, 1), whole(api.Told{Value: 10, Had: true, Number: 1}, api.OK), 2+4+2+1+1)
	if is := r.state(); is.slot(is.versions[0][0]).Mark != 2 {
		t.Fatalf("P18.3: %+v", is)
	}
	r.wantsStill(t, "P18.3", peekBy(0, 1, 1), whole(api.Told{Value: 10, Had: true, Number: 1}, api.OK), 2+2+2+1+1)
}

// Each error of View and of Peek, at its place, by stores that were spoilt.
func TestErrorsOfPeek(t *testing.T) {
	ahead := []api.Call{get(1), lease()} // slot 1: the leaf, slot 2: the version
	for _, x := range []struct {
		name        string
		more        []api.Call
		err         api.Errno
		view, lines int
		viewed      bool // View goes well
	}{
		{"the newest version was given back", []api.Call{give(word(2, 1))}, gone, 4, 4, false},
		{"the root was given back", []api.Call{give(word(1, 1))}, gone, 5, 6, true},
		{"the root is no handle", []api.Call{publish(0, 7, 2), freeBy(0, 0), lease()}, noHandle, 5, 6, true},
		{"the root is no node", []api.Call{publish(0, word(2, 1), 2), freeBy(0, 0), lease()}, noRoot, 5, 6, true},
		{"the version that is shown was cut off", []api.Call{put(1, 5), link(word(4, 1), 0)}, none, 5, 5, false},
		{"the version that is shown was given back", []api.Call{put(1, 5), give(word(2, 1))}, gone, 6, 6, false},
		{"a version's link is no handle", []api.Call{put(1, 5), link(word(4, 1), 5)}, noHandle, 6, 6, false},
	} {
		r := after(t, append(slices.Clone(ahead), x.more...)...)
		stamp := r.state().leases[0] - 1
		a, b := r.by(t, view(0, stamp, 0)), r.by(t, peekBy(0, stamp, 1))
		if x.viewed && (!a.Ok || a.M == 0) || !x.viewed && !sameAnswer(a, failed(x.err)) || a.Own != x.view || !sameAnswer(b, failed(x.err)) || b.Own != x.lines {
			t.Errorf("P18.3: %s: %+v, %+v, want %v in %d and %d lines", x.name, a, b, x.err, x.view, x.lines)
		}
	}
	// Of the Read alone: the version goes between it and At's last line.
	for at, want := range map[int]api.Errno{4: gone, 5: api.OK} {
		r := after(t, ahead...)
		if a, _ := r.broken(t, view(0, 1, 0), at, give(word(2, 1))); a.Err != want || a.Own != 5 {
			t.Errorf("P18.3: given back behind %d lines: %+v", at, a)
		}
	}
	for at, want := range map[int]api.Errno{5: gone, 6: api.OK} {
		r := after(t, ahead...)
		if a, _ := r.broken(t, peekBy(0, 1, 1), at, give(word(1, 1))); a.Err != want || a.Own != 6 {
			t.Errorf("P18.3: given back behind %d lines: %+v", at, a)
		}
	}
}

// Which error, where several apply: the one whose place comes first.
func TestFirstErrorOfPeek(t *testing.T) {
	s := plain
	s.Fails = 1
	r := newReal(t, s)
	r.wantsStill(t, "P18.3", peekBy(9, 9, -1), failed(noKey), 1)
	r.wantsStill(t, "P18.3", view(9, 9, 2), failed(noPart), 1)
	r.wantsStill(t, "P18.3", view(0, 1, 0), failed(noSnap), 1) // the loading would fail
	r.wantsStill(t, "P18.3", peekBy(0, 1, 1), failed(noSnap), 1)
	r.do(t, lease())
	r.wantsStill(t, "P18.3", peekBy(0, 1, 1), failed(fails), 4)
	r.wants(t, "P18.3", peekBy(0, 1, 1), whole(api.Told{Value: 10, Had: true, Number: 1}, api.OK), 1+2+3+5+1+2+1+1)
	// Who the epoch doesn't know needn't enter.
	if a := r.byWorker(t, 7, peekBy(0, 1, 1)); a.Err != api.OK || a.Own != 6 {
		t.Errorf("P18.3: %+v", a)
	}
}

// The document's example, step by step; what is told is all of an api.Told.
func TestExample(t *testing.T) {
	s, err := store.New(api.Setup{Parts: 2, Workers: 1, Slots: 40, Leases: 2, Source: pairs(1, 10, far, 20)})
	if err != api.OK {
		t.Fatal(err)
	}
	wants := func(what string, told api.Told, err api.Errno, want api.Told) {
		t.Helper()
		if err != api.OK || told != want {
			t.Errorf("example: %s: %+v, %v", what, told, err)
		}
	}
	told, err := s.Get(nil, 1)
	wants("Get(1)", told, err, api.Told{Value: 10, Had: true, Number: 1})
	x, err := s.Snap(nil)
	if err != api.OK || x != (api.Snap{Lease: 0, Stamp: 1}) {
		t.Errorf("example: Snap: %+v, %v", x, err)
	}
	told, err = s.Put(nil, 1, 11)
	wants("Put(1, 11)", told, err, api.Told{Value: 10, Had: true, Number: 2, New: true})
	told, err = s.Peek(nil, x, 1)
	wants("Peek(1)", told, err, api.Told{Value: 10, Had: true, Number: 1})
	if states := s.Load().States(); !slices.Equal(states, []int{2, 0}) {
		t.Errorf("example: %v", states)
	}
	told, err = s.Peek(nil, x, far)
	wants("Peek(4000000000)", told, err, api.Told{Value: 20, Had: true, Number: 1})
	if states := s.Load().States(); !slices.Equal(states, []int{2, 2}) {
		t.Errorf("example: %v", states)
	}
	told, err = s.Get(nil, 1)
	wants("Get(1)", told, err, api.Told{Value: 11, Had: true, Number: 2})
	if err := s.Name(nil, 7, x); err != api.OK {
		t.Errorf("example: Name: %v", err)
	}
	told, err = s.PeekNamed(nil, 7, 1)
	wants("PeekNamed(7, 1)", told, err, api.Told{Value: 10, Had: true, Number: 1})
	if l := s.Names(nil); !slices.Equal(l, pairs(7, 1)) {
		t.Errorf("example: Names: %v", l)
	}
	if err := s.Unname(nil, 7); err != api.OK {
		t.Errorf("example: Unname: %v", err)
	}
	if told, err := s.PeekNamed(nil, 7, 1); err != unknown || told != (api.Told{}) {
		t.Errorf("example: PeekNamed: %+v, %v", told, err)
	}
	if n, err := s.Trim(nil, 0); n != 2 || err != api.OK {
		t.Errorf("example: Trim: %d, %v", n, err)
	}
	if !s.Advance(nil) || !s.Advance(nil) {
		t.Error("example: Advance")
	}
	if n, err := s.Collect(nil); n != 2 || err != api.OK || s.Pool().Faults() != 0 || len(s.Pool().Free()) != 36 {
		t.Errorf("example: Collect: %d, %v", n, err)
	}
}
