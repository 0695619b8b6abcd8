package store_test

import (
	"slices"
	"testing"

	"skein/api"
)

// A name stands for a snapshot's lease and its stamp; it isn't looked at whether anybody holds them.
func TestName(t *testing.T) {
	r := after(t, lease(), lease())
	r.wants(t, "P18.4", nameBy(7, 0, 1), good(), 2)
	r.wantsStill(t, "P18.4", nameBy(7, 0, 1), failed(isTaken), 1)
	r.wantsStill(t, "P18.4", nameBy(7, 1, 2), failed(isTaken), 1)
	r.wants(t, "P18.4", nameBy(0, 1, 2), good(), 2)
	r.wants(t, "P18.4", nameBy(mostKey, 5, 9), good(), 2)
	r.wantsStill(t, "P18.5", names(), listed(0, 2, 7, 1, mostKey, 9), 1)
	for _, n := range badKeys {
		r.wantsStill(t, "P18.4", nameBy(n, 0, 1), failed(noName), 1)
	}
}

// What can't be packed: a line, ahead of all; the lease's error ahead of the stamp's.
func TestNameOfWhatCantBePacked(t *testing.T) {
	r := after(t, lease(), nameBy(7, 0, 1))
	for _, name := range []int{7, 8, -1, mostKey + 1} {
		for _, n := range []int{lowest, lowest + 1, -1 << 32, -3, -2, 1<<20 - 1, 1 << 20, 1 << 32, highest - 1, highest} {
			for _, stamp := range []int{lowest, -1, 0, 1, 1<<40 - 1, 1 << 40, highest} {
				r.wantsStill(t, "P18.4", nameBy(name, n, stamp), failed(api.ErrWordIndex), 1)
			}
		}
		for _, stamp := range []int{lowest, lowest + 1, -1 << 32, -1, 1 << 40, 1<<40 + 1, highest - 1, highest} {
			for _, n := range []int{-1, 0, 1, 63, 1<<20 - 2} {
				r.wantsStill(t, "P18.4", nameBy(name, n, stamp), failed(api.ErrWordTag), 1)
			}
		}
	}
	// The edges: the word 0, and the greatest one.
	r.wants(t, "P18.4", nameBy(1, -1, 0), good(), 2)
	r.wants(t, "P18.4", nameBy(2, 1<<20-2, 1<<40-1), good(), 2)
	r.wantsStill(t, "P18.5", names(), listed(1, 0, 2, 1<<40-1, 7, 1), 1)
	for _, n := range []int{1, 2} {
		r.wants(t, "P18.4", unname(n), failed(noLease), 3)
	}
	r.wantsStill(t, "P18.5", names(), listed(7, 1), 1)
}

// As many names as can be, and then none; one that is taken is told ahead of that.
func TestNamesUpToTheLimit(t *testing.T) {
	s := plain
	s.Leases = mostLeases
	r := newReal(t, s)
	var all []int
	for i := range mostNames {
		r.do(t, lease())
		r.wants(t, "P18.4", nameBy(3*i, i, i+1), good(), 2)
		all = append(all, 3*i, i+1)
	}
	r.wantsStill(t, "P18.5", names(), listed(all...), 1)
	for _, n := range []int{1, 2, 64, 190, mostKey} {
		r.wantsStill(t, "P18.4", nameBy(n, 0, 1), failed(allNamed), 1)
	}
	for _, n := range []int{0, 3, 189} {
		r.wantsStill(t, "P18.4", nameBy(n, 0, 1), failed(isTaken), 1)
	}
	r.wantsStill(t, "P18.4", nameBy(-1, 0, 1), failed(noName), 1)
	r.wantsStill(t, "P18.4", nameBy(1, -2, 1), failed(api.ErrWordIndex), 1)
	r.wants(t, "P18.4", unname(93), good(), 3)
	r.wants(t, "P18.4", nameBy(1, 31, 32), good(), 2)
	r.wantsStill(t, "P18.4", nameBy(2, 0, 1), failed(allNamed), 1)
	// By a register: it isn't emptied, unless the name was laid.
	r.wants(t, "P18.8", lease(), held(31, 65), 36)
	r.do(t, freeBy(31, 0), snap(2))
	r.wantsStill(t, "P18.8", name(2, 2), failed(allNamed), 1)
	r.wantsStill(t, "P18.8", name(1, 2), failed(isTaken), 1)
	r.wantsStill(t, "P18.8", name(-1, 2), failed(noName), 1)
	r.do(t, unname(1))
	r.wants(t, "P18.8", name(2, 2), good(), 2)
	r.wantsStill(t, "P18.8", free(2), failed(noSnap), 1)
}

// Unname lets go of the lease that the name had.
func TestUnname(t *testing.T) {
	r := after(t, lease(), lease(), nameBy(7, 1, 2), nameBy(8, 0, 1))
	for _, n := range badKeys {
		r.wantsStill(t, "P18.4", unname(n), failed(noName), 1)
	}
	for _, n := range []int{0, 6, 9, mostKey} {
		r.wantsStill(t, "P18.4", unname(n), failed(unknown), 1)
	}
	r.wants(t, "P18.4", unname(7), good(), 3)
	if is := r.state(); !slices.Equal(is.leases, []int{2, 0}) || !slices.Equal(is.names, pairs(8, 1)) {
		t.Errorf("P18.4: %+v", is)
	}
	r.wantsStill(t, "P18.4", unname(7), failed(unknown), 1)
	// A lease that somebody let go meanwhile: the name goes, with that error.
	r.do(t, freeBy(0, 1))
	r.wants(t, "P18.4", unname(8), failed(noLease), 3)
	r.wantsStill(t, "P18.5", names(), listed(), 1)
	// Another name's Unname goes between: both go on.
	for at := range 4 {
		r := after(t, lease(), lease(), nameBy(7, 1, 2), nameBy(8, 0, 1))
		a, b := r.broken(t, unname(7), at, unname(8))
		if want := 3 + 2*bit(at == 1); a.Own != want || !a.Ok || !b[0].Ok || slices.Max(r.state().leases) != 0 {
			t.Errorf("P18.4: broken off behind %d lines: %+v, %+v", at, a, b)
		}
	}
}

// PeekNamed's lines, where it goes well: Enter, Get, Ready, At, Read, Find, Get, Leave.
func TestPeekNamed(t *testing.T) {
	r := after(t, get(1), lease(), nameBy(7, 0, 1))
	for newer := range 5 {
		r.wantsStill(t, "P18.5", hand(peekNamed(7, 1)), whole(api.Told{Value: 10, Had: true, Number: 1}, api.OK), 10+2*newer)
		r.wantsStill(t, "P18.5", hand(peekNamed(7, 3)), whole(api.Told{Number: 1}, api.OK), 10+2*newer)
		r.wantsStill(t, "P18.8", peekNamed(7, 1), read(10, 1), 10+2*newer)
		r.do(t, put(1, 20+newer))
	}
	r.wants(t, "P18.5", hand(peekNamed(7, far)), whole(api.Told{Value: 20, Had: true, Number: 1}, api.OK), 10-1+2+3+5+1)
	// Who is within already stays so.
	r.do(t, enter())
	r.wantsStill(t, "P18.5", hand(peekNamed(7, far)), whole(api.Told{Value: 20, Had: true, Number: 1}, api.OK), 9)
	if at := r.Epoch().At(); at[0] == 0 {
		t.Errorf("P18.5: %v", at)
	}
	r.do(t, leave())
}

// Each error of PeekNamed, at its place: behind Enter the worker leaves, and behind the first look it looks again.
func TestErrorsOfPeekNamed(t *testing.T) {
	failing := plain
	failing.Fails = 2
	few := plain
	few.Slots = 1
	for _, x := range []struct {
		name  string
		s     api.Setup
		ahead []api.Call
		c     api.Call
		err   api.Errno
		lines int
	}{
		{"no name", plain, nil, peekNamed(-1, 1), noName, 4},
		{"no name", plain, nil, peekNamed(mostKey+1, 1), noName, 4},
		{"a name that isn't there", plain, nil, peekNamed(7, 1), unknown, 4},
		{"another name", plain, []api.Call{nameBy(8, 0, 1)}, peekNamed(7, 1), unknown, 4},
		{"the loading fails", failing, []api.Call{nameBy(7, 0, 1)}, peekNamed(7, 1), fails, 3 + 3 + 2},
		{"no room to load", few, []api.Call{nameBy(7, 0, 1)}, peekNamed(7, 1), noRoom, 3 + 2 + 3 + 1 + 4 + 1 + 2},
		{"a stamp that shows nothing", plain, []api.Call{get(1), nameBy(7, 0, 0)}, peekNamed(7, 1), none, 3 + 1 + 3 + 2},
		{"the newest version was given back", plain, []api.Call{get(1), nameBy(7, 0, 1), give(word(2, 1))}, peekNamed(7, 1), gone, 3 + 1 + 2 + 2},
		{"the version that is shown was given back", plain, []api.Call{get(1), lease(), nameBy(7, 0, 1), put(1, 5), give(word(2, 1))}, peekNamed(7, 1), gone, 3 + 1 + 4 + 2},
		{"the root was given back", plain, []api.Call{get(1), nameBy(7, 0, 1), give(word(1, 1))}, peekNamed(7, 1), gone, 3 + 1 + 2 + 1 + 1 + 2},
		{"the root is no handle", plain, []api.Call{get(1), publish(0, 7, 2), nameBy(7, 0, 1)}, peekNamed(7, 1), noHandle, 3 + 1 + 2 + 1 + 1 + 2},
		{"the root is no node", plain, []api.Call{get(1), publish(0, word(2, 1), 2), nameBy(7, 0, 1)}, peekNamed(7, 1), noRoot, 3 + 1 + 2 + 1 + 1 + 2},
	} {
		r := newReal(t, x.s).do(t, x.ahead...)
		was := r.state()
		r.wants(t, "P18.5: "+x.name, x.c, failed(x.err), x.lines)
		is := r.state()
		is.faults, was.faults = 0, 0
		is.slots, is.free, was.slots, was.free = nil, nil, nil, nil // a loading that found no room took some, and gave them back
		if !is.same(was) || is.at[0] != 0 {
			t.Errorf("P18.5: %s: %+v, want %+v", x.name, is, was)
		}
		r = newReal(t, x.s).do(t, x.ahead...)
		r.wants(t, "P18.5: "+x.name, hand(x.c), failed(x.err), x.lines)
		if !r.Advance(nil) || !r.Advance(nil) {
			t.Errorf("P18.5: %s: it is within", x.name)
		}
	}
	// Of the Read alone: the version goes between it and At's last line.
	r := after(t, get(1), nameBy(7, 0, 1))
	if a, _ := r.broken(t, peekNamed(7, 1), 6, give(word(2, 1))); !sameAnswer(a, failed(gone)) || a.Own != 9 || r.Epoch().At()[0] != 0 {
		t.Errorf("P18.5: %+v", a)
	}
	// While another one loads the part.
	r = after(t, nameBy(7, 0, 1)).haltedBy(t, 1, get(1), 4)
	r.wantsStill(t, "P18.5", peekNamed(7, 1), failed(busy), 3+1+2)
	// A worker that the epoch doesn't know: a line; the key is looked at first, the name not at all.
	r = after(t, get(1), nameBy(7, 0, 1))
	for _, c := range []api.Call{peekNamed(7, 1), peekNamed(8, 1), peekNamed(-1, 1), hand(peekNamed(7, 1))} {
		for _, k := range []int{3, 7} {
			if a := r.byWorker(t, k, c); !sameAnswer(a, failed(noWorker)) || a.Own != 1 {
				t.Errorf("P18.5: %+v by worker %d: %+v", c, k, a)
			}
		}
	}
}

// A name that goes while it is read, at each line: what the first look and the second one find.
func TestNameGoes(t *testing.T) {
	ahead := []api.Call{get(1), lease(), put(1, 11), lease(), nameBy(7, 0, 1)}
	for _, x := range []struct {
		name   string
		others []api.Call
		want   func(at int) api.Answer
	}{
		{"it goes", []api.Call{unname(7)}, goes(api.Answer{Ok: true, N: 10, M: 1}, failed(lost), failed(unknown))},
		{"it goes, and a Trim cuts off what it showed", []api.Call{unname(7), freeBy(1, 0), trim(0)}, goes(read(10, 1), failed(lost), failed(unknown))},
		{"it comes again with another snapshot", []api.Call{unname(7), nameBy(7, 1, 2)}, goes(read(10, 1), failed(lost), read(11, 2))},
		{"it comes again with another lease of that stamp", []api.Call{unname(7), nameBy(7, 5, 1)}, goes(read(10, 1), failed(lost), read(10, 1))},
		{"it comes again with that lease and another stamp", []api.Call{unname(7), nameBy(7, 0, 2)}, goes(read(10, 1), failed(lost), read(11, 2))},
		{"it comes again with that word", []api.Call{unname(7), nameBy(7, 0, 1)}, goes(read(10, 1), read(10, 1), read(10, 1))},
		{"another one goes", []api.Call{nameBy(8, 1, 2), unname(8)}, goes(read(10, 1), read(10, 1), read(10, 1))},
	} {
		for at := range 12 + 1 {
			r := after(t, ahead...)
			a, _ := r.broken(t, peekNamed(7, 1), at, x.others...)
			if want := x.want(at); !sameAnswer(a, want) {
				t.Errorf("P18.5: %s behind %d lines: %+v, want %+v", x.name, at, a, want)
			}
			if is := r.state(); is.at[0] != 0 || is.faults != 0 {
				t.Errorf("P18.5: %s behind %d lines: %+v", x.name, at, is)
			}
		}
	}
	// What it met doesn't count then, were it an error.
	r := after(t, get(1), nameBy(7, 0, 0))
	if a, _ := r.broken(t, peekNamed(7, 1), 4, unname(7)); !sameAnswer(a, failed(lost)) || a.Own != 9 {
		t.Errorf("P18.5: %+v", a)
	}
	r = after(t, nameBy(7, 0, 1)).haltedBy(t, 2, get(1), 4)
	if a, _ := r.broken(t, peekNamed(7, 1), 4, unname(7)); !sameAnswer(a, failed(lost)) || a.Own != 6 {
		t.Errorf("P18.5: %+v", a)
	}
}

// goes: what a PeekNamed of 12 lines answers, when a name goes that it looks at with its lines 3 and 11: ahead of both, between, behind.
func goes(behind, between, ahead api.Answer) func(at int) api.Answer {
	return func(at int) api.Answer {
		switch {
		case at < 3:
			return ahead
		case at < 11:
			return between
		}
		return behind
	}
}

// While it is within, what is cut off isn't given back: a Trim, Advances and a Collect at each line make no fault.
func TestPeekNamedIsWithin(t *testing.T) {
	counts := map[api.Errno]int{}
	for at := range 12 + 1 {
		r := after(t, get(1), lease(), put(1, 11), nameBy(7, 0, 1))
		a, b := r.broken(t, peekNamed(7, 1), at, unname(7), trim(0), advance(), advance(), advance(), collect(), put(1, 12), put(2, 13))
		counts[a.Err]++
		if back := 2 * bit(at < 2 || at == 12); b[1].N != 2 || b[5].N != back || r.Pool().Faults() != 0 {
			t.Errorf("P18.5, P32.11: broken off behind %d lines: %+v, %+v, %d faults", at, a, b, r.Pool().Faults())
		}
	}
	if counts[lost] != 8 || counts[unknown] != 3 || counts[api.OK] != 2 {
		t.Errorf("P18.5: %v", counts)
	}
}

// Trim, Advance and Collect are the trim's and the epoch's, with all their lines.
func TestTrimAdvanceCollect(t *testing.T) {
	r := after(t)
	r.wantsStill(t, "P18.6", trim(0), number(0), 2+3+1+1)
	r.do(t, get(1), get(far), put(1, 11), put(far, 21), put(1, 12))
	r.wants(t, "P18.6", trim(1), number(2), 2+3+2+1+2+1+1)
	if is := r.state(); len(is.versions[0]) != 3 || len(is.versions[1]) != 1 || len(is.waiting[0]) != 2 {
		t.Errorf("P18.6: %+v", is)
	}
	r.do(t, lease())
	r.wants(t, "P18.6", trim(0), number(4), 2+3+2+1+2+1+2+1+1)
	r.wants(t, "P18.6", advance(), good(), 5)
	r.wants(t, "P18.6", collect(), number(0), 1)
	r.wants(t, "P18.6", advance(), good(), 5)
	r.wants(t, "P18.6", collect(), number(6), 1+4*6)
	r.do(t, enter(), advance())
	r.wantsStill(t, "P18.6", advance(), api.Answer{}, 2)
	if r.Advance(nil) {
		t.Error("P18.6: Advance")
	}
	for _, k := range []int{3, 7} {
		for c, want := range map[int]api.Answer{12: failed(noWorker), 13: {}, 14: failed(noWorker)} {
			if a := r.byWorker(t, k, api.Call{Kind: c}); !sameAnswer(a, want) || a.Own != 1 {
				t.Errorf("P18.6: kind %d by worker %d: %+v", c, k, a)
			}
		}
	}
	// Of a chain whose version was given back the pool's error.
	r = after(t, get(1), give(word(2, 1)))
	r.wants(t, "P18.6", trim(0), failed(gone), 2+3+2+1)
	if r.Epoch().At()[0] != 0 {
		t.Error("P18.6: it is within")
	}
}

// Two stores don't touch one another.
func TestTwoStores(t *testing.T) {
	calls := []api.Call{put(1, 5), snap(0), put(1, 6), peek(0, 1), name(7, 0), put(far, 7), trim(0), snap(0), unname(7), trim(0), advance(), advance(), collect(), get(1), names()}
	m := newModel(plain)
	r, o := newReal(t, plain), newReal(t, plain)
	for _, c := range calls {
		want := m.alone(c)
		o.by(t, put(3, want.Own))
		o.by(t, snap(1))
		o.by(t, name(9, 1))
		if a := r.by(t, c); !sameAnswer(a, want) || a.Own != want.Own {
			t.Fatalf("P18.1: %+v: %+v, want %+v", c, a, want)
		}
	}
	if !r.state().same(m.told()) {
		t.Errorf("P18.1: %+v, want %+v", r.state(), m.told())
	}
}
