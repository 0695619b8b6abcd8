package store_test

import (
	"slices"
	"testing"

	"skein/api"
	"skein/crew"
	"skein/store"
)

func TestNewRefuses(t *testing.T) {
	fine := api.Setup{Parts: 1, Workers: 1, Slots: 1, Leases: 1}
	most := api.Setup{Parts: mostParts, Workers: 8, Slots: mostSlots, Leases: mostLeases, Source: slices.Repeat(pairs(1, 1), mostSource), Fails: highest}
	refuses := func(s api.Setup) {
		t.Helper()
		m, err := store.New(s)
		if m != nil || err != noSetup {
			t.Errorf("P18.1: New(%+v): %v, %v", s, m, err)
		}
		run, rows, err := store.Play(s, work([]api.Call{get(1)}))
		if !sameRun(run, api.Run{}) || len(rows) != 0 || err != noSetup {
			t.Errorf("P18.8: Play(%+v): %+v, %v, %v", s, run, rows, err)
		}
	}
	for _, s := range []api.Setup{fine, most} {
		spoil := func(list []int, f func(s *api.Setup, n int)) {
			for _, n := range list {
				x := s
				f(&x, n)
				refuses(x)
			}
		}
		spoil(badParts, func(s *api.Setup, n int) { s.Parts = n })
		spoil(badWorkers, func(s *api.Setup, n int) { s.Workers = n })
		spoil(badSlots, func(s *api.Setup, n int) { s.Slots = n })
		spoil(badLeases, func(s *api.Setup, n int) { s.Leases = n })
		spoil(badKeys, func(s *api.Setup, n int) { s.Source = pairs(n, 1) })
		spoil(badKeys, func(s *api.Setup, n int) { s.Source = append(slices.Repeat(pairs(1, 1), mostSource-1), pairs(n, 1)...) })
		spoil(badKeys, func(s *api.Setup, n int) { s.Source = pairs(n, 1, 0, 1, mostKey, 1) })
		spoil([]int{1, 2, 44, 1000}, func(s *api.Setup, n int) { s.Source = slices.Repeat(pairs(1, 1), mostSource+n) })
		spoil([]int{0, -1, 9}, func(s *api.Setup, n int) { s.Parts, s.Workers, s.Slots, s.Leases = 65, n, 0, -1 })
	}
	refuses(api.Setup{})
}

// Each limit of a setup, and both at once; how many loadings fail may be any number.
func TestNewAtItsLimits(t *testing.T) {
	wants := func(s api.Setup) {
		t.Helper()
		if r := newReal(t, s); !r.state().same(newState(s)) || r.Parts() != s.Parts {
			t.Fatalf("P18.1: New(%+v): %+v", s, r.state())
		}
	}
	sources := [][]api.Pair{nil, pairs(0, lowest, mostKey, highest), slices.Repeat(pairs(5, 50), mostSource)}
	for _, parts := range []int{1, mostParts} {
		for _, workers := range []int{1, 8} {
			for _, slots := range []int{1, mostSlots} {
				for _, leases := range []int{1, mostLeases} {
					wants(api.Setup{Parts: parts, Workers: workers, Slots: slots, Leases: leases, Source: sources[leases%3]})
				}
			}
		}
		for _, source := range sources {
			for _, fails := range []int{lowest, -1, 0, 1, highest} {
				wants(api.Setup{Parts: parts, Workers: 2, Slots: 5, Leases: 3, Source: source, Fails: fails})
			}
		}
	}
}

// What a store is made of: one of each, the same whenever it is asked; a chain for each part, and of no part none.
func TestWhatItIsMadeOf(t *testing.T) {
	for _, parts := range []int{1, 2, 5, mostParts} {
		r := newReal(t, api.Setup{Parts: parts, Workers: 2, Slots: 300, Leases: 3})
		p, e, k, l := r.Pool(), r.Epoch(), r.Clock(), r.Load()
		if p == nil || e == nil || k == nil || l == nil || r.Parts() != parts {
			t.Fatalf("P18.7: %d parts: %v, %v, %v, %v, %d", parts, p, e, k, l, r.Parts())
		}
		seen := map[any]bool{}
		for i := range parts {
			x := r.Chain(i)
			if x == nil || x != r.Chain(i) || seen[x] {
				t.Fatalf("P18.7: part %d of %d: %v", i, parts, x)
			}
			seen[x] = true
			r.do(t, put(least(i, parts), i))
			if len(x.Versions()) != 2 || l.States()[i] != 2 {
				t.Errorf("P18.7: part %d of %d: %v, %v", i, parts, x.Versions(), l.States())
			}
		}
		r.do(t, snap(0))
		if k.Leases()[0] != 2 || e.Now() != 1 || len(e.At()) != 2 || len(p.Free()) != 300-3*parts {
			t.Errorf("P18.7: %d parts: %v, %d, %v, %d", parts, k.Leases(), e.Now(), e.At(), len(p.Free()))
		}
		if p != r.Pool() || e != r.Epoch() || k != r.Clock() || l != r.Load() {
			t.Errorf("P18.7: %d parts: not the same", parts)
		}
		for _, n := range append(slices.Clone(badParts), parts) {
			if x := r.Chain(n); (n < 0 || n >= parts) && x != nil {
				t.Errorf("P18.7: %d parts: Chain(%d): %v", parts, n, x)
			}
		}
	}
}

// asks: a call that asks what a store is made of, its registers and its rows.
func (r real) asks(w *crew.Worker) api.Answer {
	r.Parts()
	r.Pool()
	r.Epoch()
	r.Clock()
	r.Load()
	for _, n := range []int{-1, 0, 1, 2} {
		r.Chain(n)
		r.calls.Register(w, n)
	}
	r.calls.Rows()
	return api.Answer{}
}

// Neither what a store is made of nor a register nor the rows take a line.
func TestAskedWithoutALine(t *testing.T) {
	for _, calls := range [][]api.Call{nil, {get(1), put(far, 3), snap(0), snap(1), name(3, 1)}} {
		r := after(t, calls...)
		was := r.state()
		a := lonely(t, work([]api.Call{{}}), does(func(w *crew.Worker, _ api.Call) api.Answer { return r.asks(w) }))
		if a.Own != 0 || !r.state().same(was) {
			t.Errorf("P18.7, P18.8: %d lines, %+v", a.Own, r.state())
		}
	}
}

// Sources: none, one key twice, keys of each part; one part, and as many as can be.
func TestSources(t *testing.T) {
	var every []api.Pair
	for i := range mostParts {
		every = append(every, pairs(least(i, mostParts), i, least(i+1, mostParts)-1, -i, least(i, mostParts)+7, 3, least(i, mostParts), 100+i)...)
	}
	if len(every) != mostSource {
		t.Fatal(len(every))
	}
	for _, source := range [][]api.Pair{nil, pairs(5, 1), pairs(5, 1, 5, 2, 5, 3), pairs(5, 1, 6, 2, 5, 1), pairs(0, 1, mostKey, 2, 1<<31, 3, 1<<31-1, 4), every} {
		for _, parts := range []int{1, 2, 3, mostParts} {
			s := api.Setup{Parts: parts, Workers: 1, Slots: 1000, Leases: 1, Source: source}
			r := newReal(t, s)
			want := plainly(source)
			for i := range parts {
				r.do(t, get(least(i, parts)))
			}
			for _, key := range append(keysOf(source), 4, 7, 1<<31+9) {
				value, had := want[key]
				if a := r.by(t, get(key)); a.Ok != had || a.N != value || a.M != 1 || a.Err != api.OK {
					t.Errorf("P18.1: %+v: Get(%d): %+v", s, key, a)
				}
			}
			used := parts
			for i := range parts {
				used += max(0, 2*len(sourceOf(s, i))-1)
			}
			if is := r.state(); is.used() != used || slices.Contains(is.states, 0) {
				t.Errorf("P18.1: %d pairs, %d parts: %d slots are in use, want %d", len(source), parts, is.used(), used)
			}
		}
	}
}

func keysOf(list []api.Pair) []int {
	var keys []int
	for _, x := range list {
		keys = append(keys, x.Key)
	}
	return keys
}

// A call goes to its key's part, and to no other one: at both ends of each part's range.
func TestItsPart(t *testing.T) {
	takesLong(t)
	for _, parts := range []int{1, 2, 3, 7, 63, mostParts} {
		s := api.Setup{Parts: parts, Workers: 1, Slots: 2000, Leases: 1}
		r := newReal(t, s)
		numbers := make([]int, parts)
		wants := func(what string, i int, told api.Told, err api.Errno) {
			t.Helper()
			numbers[i]++
			if err != api.OK || told.Number != numbers[i] {
				t.Fatalf("P18.2: %d parts: %s in part %d: %+v, %v", parts, what, i, told, err)
			}
		}
		for i := range parts {
			lo, hi := least(i, parts), least(i+1, parts)-1
			told, err := r.Get(nil, lo)
			wants("Get", i, told, err)
			told, err = r.Put(nil, lo, 1)
			wants("Put", i, told, err)
			told, err = r.Put(nil, hi, 2)
			wants("Put", i, told, err)
			told, err = r.Swap(nil, lo, 1, 3)
			wants("Swap", i, told, err)
			told, err = r.Swap(nil, hi, 2, 4)
			wants("Swap", i, told, err)
			told, err = r.Many(nil, pairs(hi, 5, lo, 6))
			wants("Many", i, told, err)
			told, err = r.Drop(nil, lo)
			wants("Drop", i, told, err)
			if told, err := r.Get(nil, hi); err != api.OK || told != (api.Told{Value: 5, Had: true, Number: numbers[i]}) {
				t.Errorf("P18.2: %d parts: Get in part %d: %+v, %v", parts, i, told, err)
			}
			if x, err := r.Snap(nil); err != api.OK {
				t.Error(err)
			} else {
				for _, key := range []int{lo, hi} {
					told, err := r.Peek(nil, x, key)
					if err != api.OK || told != (api.Told{Value: 5 * bit(key == hi), Had: key == hi, Number: numbers[i]}) {
						t.Errorf("P18.3: %d parts: Peek(%d) in part %d: %+v, %v", parts, key, i, told, err)
					}
				}
				if err := r.Name(nil, 5, x); err != api.OK {
					t.Error(err)
				}
				told, err := r.PeekNamed(nil, 5, hi)
				if err != api.OK || told != (api.Told{Value: 5, Had: true, Number: numbers[i]}) {
					t.Errorf("P18.5: %d parts: PeekNamed in part %d: %+v, %v", parts, i, told, err)
				}
				r.Unname(nil, 5)
			}
			for j := range parts {
				if n := len(r.Chain(j).Versions()); n != numbers[j] {
					t.Fatalf("P18.2: %d parts: behind part %d: %d versions of part %d", parts, i, n, j)
				}
			}
		}
	}
}

// Keys that are none: a line, and nothing else, whatever else is wrong.
func TestKeysThatAreNone(t *testing.T) {
	for _, calls := range [][]api.Call{nil, {get(1), put(far, 3), snap(0), snap(1), name(3, 1)}} {
		r := after(t, calls...)
		for _, key := range badKeys {
			for _, c := range []api.Call{
				get(key), put(key, 1), drop(key), swap(key, 1, 2), many(key, 1), many(key, 1, 1, 2), many(key, 1, key, 2), peekNamed(3, key), peekNamed(9, key), peekNamed(-1, key),
				hand(get(key)), hand(put(key, 1)), hand(drop(key)), hand(swap(key, 1, 2)), hand(many(key, 1)), hand(peekNamed(3, key)),
				peekBy(0, 1, key), peekBy(1, 1, key), peekBy(-1, 0, key),
			} {
				r.wantsStill(t, "P18.2, P18.3, P18.5", c, failed(noKey), 1)
				if a := r.byWorker(t, 5, c); a.Err != noKey || a.Own != 1 {
					t.Errorf("P18.2: %+v by a worker that the epoch doesn't know: %+v", c, a)
				}
			}
			// A key that isn't the first one's: the part's error.
			for _, c := range []api.Call{many(1, 1, key, 2), many(far, 1, 4, 2), many(1, 1, 2, 2, far, 3), hand(many(4, 4, key, 2))} {
				r.wantsStill(t, "P18.2", c, failed(noKey), 1)
			}
		}
	}
	// By a register it is looked at behind the register.
	r := after(t, snap(0))
	for _, key := range badKeys {
		r.wantsStill(t, "P18.8", peek(0, key), failed(noKey), 1)
		r.wantsStill(t, "P18.8", peek(1, key), failed(noSnap), 1)
		r.wantsStill(t, "P18.8", peek(4, key), failed(noCall), 1)
	}
}

// The lines of a part's calls, by a worker: of a part that isn't there yet, and of one that is.
func TestLinesOfKeys(t *testing.T) {
	const loads, reads, writes = 2 + 3 + 5 + 1, 2 + 2 + 1 + 1, 2 + 2 + 1 + 1 // loading; Enter, Top, Read, Leave
	r := after(t)
	r.wants(t, "P18.2", get(1), read(10, 1), loads+reads+1)
	r.wants(t, "P18.2", get(1), read(10, 1), 1+reads+1)
	r.wants(t, "P18.2", get(2), lacks(1), 1+reads+1)
	r.wants(t, "P18.2", put(far, 21), wrote(20, 2, 1), loads+writes+1+3+7)
	r.wants(t, "P18.2", put(far, 21), same(21, 2, 1), 1+writes+1)
	r.wants(t, "P18.2", put(2, 20), wrote(0, 2, 0), 1+writes+1+6+7)
	r.wants(t, "P18.2", swap(2, 20, 22), wrote(20, 3, 1), 1+writes+2+2+6+7)
	r.wants(t, "P18.2", swap(2, 20, 22), failed(other), 1+writes+2)
	r.wants(t, "P18.2", swap(3, 20, 22), failed(notThere), 1+writes+2)
	r.wants(t, "P18.2", swap(2, 22, 22), same(22, 3, 1), 1+writes+2)
	r.wants(t, "P18.2", drop(2), wrote(22, 4, 1), 1+writes+2+7)
	r.wants(t, "P18.2", drop(2), same(0, 4, 0), 1+writes+1)
	r.wants(t, "P18.2", many(1, 11, 2, 22), laid(2, 5), 1+writes+1+3+1+6+7)
	r.wants(t, "P18.2", many(1, 11, 2, 22), api.Answer{M: 5}, 1+writes+2+2)
	r.wants(t, "P18.2", many(), api.Answer{M: 5}, 1+writes)
	// All that is told, by hand.
	r.wants(t, "P18.2", hand(get(1)), whole(api.Told{Value: 11, Had: true, Number: 5}, api.OK), 1+reads+2)
	r.wants(t, "P18.2", hand(many(1, 12)), whole(api.Told{New: true, Number: 6, Many: 1}, api.OK), 1+writes+2+6+7)
	r.wants(t, "P18.2", hand(drop(1)), whole(api.Told{Value: 12, Had: true, New: true, Number: 7}, api.OK), 1+writes+2+7)
}

// A Many of no pairs is part 0's: it loads that, and no other one.
func TestManyOfNothing(t *testing.T) {
	for _, parts := range []int{1, 2, mostParts} {
		r := newReal(t, api.Setup{Parts: parts, Workers: 1, Slots: 200, Leases: 1, Source: pairs(5, 1)})
		r.wants(t, "P18.2", many(), api.Answer{M: 1}, 2+3+5+1+2+2+1+1)
		if is := r.state(); is.states[0] != 2 || slices.Index(is.states[1:], 2) >= 0 {
			t.Errorf("P18.2: %v", is.states)
		}
		r.wants(t, "P18.2", hand(api.Call{Kind: 5, Pairs: []api.Pair{}}), whole(api.Told{Number: 1}, api.OK), 1+2+2+1+1)
	}
}

// Each of a part's errors comes through, and what was taken is given back.
func TestErrorsOfParts(t *testing.T) {
	s := plain
	s.Fails = 1
	for _, c := range []api.Call{get(1), put(1, 2), drop(1), swap(1, 10, 2), many(1, 3), many(), peekBy(0, 1, 1), view(0, 1, 0)} {
		r := newReal(t, s).do(t, snap(0))
		lines := 3
		if c.Kind == kindPeekBy || c.Kind == kindView {
			lines++
		}
		r.wantsStill(t, "P18.2: the loading fails", c, failed(fails), lines)
		if a := r.by(t, c); a.Err != api.OK || a.M == 0 {
			t.Errorf("P18.2: %+v: %+v", c, a)
		}
	}
	// Who the epoch doesn't know loads, and goes no further.
	r := after(t)
	for _, c := range []api.Call{get(1), put(1, 2), drop(1), swap(1, 10, 2), many(1, 3), many()} {
		if a := r.byWorker(t, 3, c); a.Err != noWorker {
			t.Errorf("P18.2: %+v: %+v", c, a)
		}
	}
	if is := r.state(); is.states[0] != 2 || is.used() != 2 || len(is.versions[0]) != 1 {
		t.Errorf("P18.2: %+v", is)
	}
	// While another one loads it: readers are told, writers wait.
	r = after(t, snap(0)).haltedBy(t, 1, get(1), 4)
	r.wantsStill(t, "P18.2", get(1), failed(busy), 1)
	r.wantsStill(t, "P18.3", peekBy(0, 1, 1), failed(busy), 2)
	r.wantsStill(t, "P18.3", view(0, 1, 0), failed(busy), 2)
	r.wants(t, "P18.3", peekBy(0, 1, far), whole(api.Told{Value: 20, Had: true, Number: 1}, api.OK), 1+2+3+5+1+2+1+1)
}

// A pool that is full at each place that takes a slot: the model tells which error, how many lines, and what is given back.
func TestFullPools(t *testing.T) {
	errs := 0
	for slots := 1; slots <= 30; slots++ {
		s := api.Setup{Parts: 2, Workers: 1, Slots: slots, Leases: 1, Source: pairs(1, 10, 2, 20, far, 30, far+1, 40, 2, 21)}
		for _, calls := range [][]api.Call{
			{get(1), get(1), get(far), put(3, 30), many(4, 1, 5, 1, 6, 1), drop(1), swap(2, 20, 22), get(1)},
			{put(1, 11), put(2, 22), put(far, 33), drop(2), many(far, 1, far+5, 2), trim(0), trim(1), advance(), advance(), collect(), put(7, 7), get(7)},
			{snap(0), peek(0, 1), peek(0, far), name(3, 0), peekNamed(3, 1), put(5, 5), peekNamed(3, far), put(1, 4), many(far, 1, far+5, 2), unname(3), trim(0), advance(), advance(), collect(), put(1, 5)},
			{many(), many(1, 1, 2, 2, 3, 3, 4, 4), swap(2, 2, 5), drop(3), drop(4)},
		} {
			f := check(t, mixed{s: s, c: work(calls)})
			for i, a := range f.run.Answers[0] {
				if a.Err != api.ErrPoolFull {
					continue
				}
				errs++
				was, is := f.moments[a.Begin-1], f.moments[a.End]
				if loaded := !slices.Equal(was.states, is.states); is.at[0] != 0 || is.used() != was.used() && !loaded {
					t.Fatalf("P18.2: %d slots: %+v: %+v, %+v", slots, calls[i], a, is)
				}
			}
			wantModel(t, "P18.8: full pools", mixed{s: s, c: work(calls)})
		}
	}
	if errs < 200 {
		t.Errorf("the pools are too great: %d", errs)
	}
}
