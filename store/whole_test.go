package store_test

import (
	"fmt"
	"maps"
	"slices"
	"testing"

	"skein/api"
	"skein/store"
)

// canBeFilmed tells whether a run has so few steps that somebody can look behind each of them.
func canBeFilmed(x mixed) bool {
	m := newModel(x.s)
	m.plays = !x.named
	run, _ := m.run(x.c, nil)
	return run.Steps <= api.MaxSteps/2
}

func TestPromisesOfMixedPlays(t *testing.T) {
	takesLong(t)
	var all found
	for _, how := range []manners{{}, {wild: true}, {busy: true}} {
		mixedPlays(700, how, func(x mixed) {
			if canBeFilmed(x) {
				all.add(check(t, x).found)
			}
		})
	}
	if all.news < 1000 || all.sames < 300 || all.gets < 300 || all.loads < 1000 || all.peeks < 500 || all.byName < 100 || all.errors < 3000 ||
		all.snaps < 1000 || all.shown < 2000 || all.apart < 500 || all.again < 100 || all.rests < 5000 || all.open < 300 {
		t.Errorf("the cases are too plain: %+v", all)
	}
}

// busyCase: a case in which all write, trim and look at once, and memory comes back meanwhile.
func (m *mixer) busyCase() mixed {
	x := mixed{s: api.Setup{Parts: 1 + m.below(2), Workers: 5, Slots: m.one([]int{14, 18, 26, 40}), Leases: 1 + m.below(4), Source: pairs(1, 10, far, 20)}}
	for k := range 2 + m.below(3) {
		var calls []api.Call
		if k == 0 {
			calls = []api.Call{get(1), get(far), snap(3), name(0, 3)}
		}
		for i := range 8 {
			key, value, part := m.one([]int{1, 2, far}), 100*k+i, m.below(x.s.Parts)
			c := [][]api.Call{
				{put(key, value)}, {put(key, value), trim(part)}, {trim(part), advance()}, {advance(), advance(), collect()}, {drop(key), trim(part)},
				{snap(0), peek(0, key), put(key, value), peek(0, key), free(0)}, {snap(0), trim(part), peek(0, key), peek(0, far), free(0)},
				{snap(1), name(k, 1), peekNamed(k, key), unname(k), trim(part)}, {peekNamed(0, key), peekNamed(1, key)}, {unname(0), snap(3), name(0, 3), free(3)},
				{get(key), get(far)}, {many(key, value, 1, 5), names()},
			}
			calls = append(calls, c[m.below(len(c))]...)
		}
		x.c.Work = append(x.c.Work, calls)
	}
	x.c.Turns = make([]int, 50)
	for len(x.c.Turns) < 1500 {
		x.c.Turns = append(x.c.Turns, slices.Repeat([]int{m.below(6)}, 1+m.below(14))...)
	}
	return x
}

func TestPromisesOfBusyCases(t *testing.T) {
	takesLong(t)
	var all found
	m := mixer(2)
	for range 200 {
		all.add(check(t, m.busyCase()).found)
	}
	if all.news < 1000 || all.peeks < 500 || all.byName < 200 || all.lost < 20 || all.snaps < 500 || all.apart < 1000 || all.again < 100 || all.back < 100 {
		t.Errorf("the cases are too plain: %+v", all)
	}
}

// All orders, where they matter.
func TestPromisesInEveryOrder(t *testing.T) {
	takesLong(t)
	var all found
	s := api.Setup{Parts: 2, Workers: 3, Slots: 30, Leases: 2, Source: pairs(1, 10, far, 20)}
	bare := s
	bare.Source = nil
	there := []api.Call{get(1), get(far)}
	const ofPut = 1 + 2 + 2 + 1 + 1 + 3 // of a key that is there, up to Push
	for _, x := range []struct {
		s          api.Setup
		ahead      []api.Call
		did        []int
		one, other []api.Call
		turns      int
	}{
		// A part that two come to at once.
		{bare, nil, nil, []api.Call{get(1)}, []api.Call{get(2)}, 8},
		{bare, nil, nil, []api.Call{put(1, 5)}, []api.Call{get(2)}, 8},
		{bare, nil, nil, []api.Call{put(1, 5)}, []api.Call{put(2, 6)}, 8},
		{bare, []api.Call{snap(0)}, nil, []api.Call{peek(0, 1)}, []api.Call{put(1, 5)}, 8},
		// A snapshot beside writes of both parts.
		{s, there, []int{0, ofPut + 3}, []api.Call{snap(0), peek(0, far), peek(0, 1)}, []api.Call{put(1, 5), put(far, 6)}, 9},
		{s, there, []int{2, ofPut + 3}, []api.Call{snap(0), peek(0, 1), snap(1), peek(1, 1)}, []api.Call{put(1, 5)}, 9},
		// Two writes of one part, from their casses on.
		{s, there, []int{ofPut + 3, ofPut + 3}, []api.Call{put(1, 5), get(1)}, []api.Call{put(1, 6), get(1)}, 9},
		{s, there, []int{ofPut + 3, 3}, []api.Call{put(1, 5), get(1)}, []api.Call{get(1)}, 9},
		// A name that goes while it is read, and a Trim behind it.
		{s, append(slices.Clone(there), snap(0), name(7, 0), put(1, 5)), []int{0, 2}, []api.Call{unname(7), trim(0)}, []api.Call{peekNamed(7, 1)}, 9},
		{s, append(slices.Clone(there), snap(0), name(7, 0), put(1, 5), snap(0)), []int{0, 3}, []api.Call{unname(7), name(7, 0), trim(0)}, []api.Call{peekNamed(7, 1)}, 9},
		{s, append(slices.Clone(there), snap(0), name(7, 0), put(1, 5), unname(7), trim(0), advance()), []int{0, 0}, []api.Call{advance(), collect(), put(1, 6)}, []api.Call{peekNamed(7, 1), get(1)}, 9},
		// Two that give a name, two that take one away.
		{s, []api.Call{snap(0)}, []int{0, 5}, []api.Call{name(7, 0), unname(7)}, []api.Call{snap(0), name(7, 0), unname(7)}, 9},
		{s, []api.Call{snap(0), name(7, 0)}, nil, []api.Call{unname(7), names()}, []api.Call{unname(7), snap(1)}, 8},
		// Free and Trim beside a Peek by another snapshot.
		{s, append(slices.Clone(there), snap(0), put(1, 5)), []int{0, 6}, []api.Call{free(0), trim(0)}, []api.Call{snap(0), peek(0, 1)}, 9},
	} {
		orders(2, x.turns, func(turns []int) {
			all.add(check(t, sideBySide(x.s, x.ahead, x.did, turns, x.one, x.other)).found)
		})
	}
	if all.news < 3000 || all.peeks < 1000 || all.byName < 10 || all.lost < 100 || all.snaps < 1000 || all.apart < 500 || all.again < 100 || all.loads < 3000 {
		t.Errorf("the orders are too plain: %+v", all)
	}
}

// Whoever is halted, at whichever line of whichever call: the promises hold, and others go on.
func TestPromisesBehindHalts(t *testing.T) {
	takesLong(t)
	var all found
	s := api.Setup{Parts: 2, Workers: 3, Slots: 40, Leases: 4, Source: pairs(1, 10, 2, 20, far, 30)}
	ahead := []api.Call{get(1), put(2, 21), snap(0), put(1, 11), snap(1), name(7, 1), put(2, 22)}
	others := []api.Call{
		snap(0), put(1, 5), peek(0, 1), trim(0), advance(), collect(), advance(), collect(), put(2, 6), peek(0, 2), get(2), peekNamed(7, 1), unname(7), trim(0),
		advance(), collect(), peekNamed(7, 1), snap(1), name(7, 1), peek(0, far), get(far), names(), many(1, 1, 2, 2), drop(2), free(0), trim(0),
	}
	for _, c := range []api.Call{
		get(1), put(1, 3), drop(1), swap(1, 11, 4), many(1, 7, 3, 8, 1, 9), snap(2), free(0), peek(0, 1), name(8, 0), unname(7), peekNamed(7, 2), trim(0), advance(), collect(), names(),
	} {
		at := linesOf(s, ahead...)
		for halt := at + 1; halt <= linesOf(s, append(slices.Clone(ahead), c)...); halt++ {
			x := sideBySide(s, ahead, []int{halt - at}, nil, []api.Call{c}, others)
			x.c.Halt = []int{halt}
			f := check(t, x)
			all.add(f.found)
			if len(f.run.Answers[1]) != len(others) || f.run.Cut {
				t.Errorf("P32.11: halted in %+v: %+v", c, f.run)
			}
		}
	}
	if all.peeks < 200 || all.byName < 100 || all.gets < 200 || all.news < 500 || all.back < 20 || all.kept < 200 || all.open < 100 {
		t.Errorf("the cases are too plain: %+v", all)
	}
}

// What a snapshot shows, by itself and by its name, stays, whatever is written, trimmed and given back meanwhile; behind its Free it goes.
func TestSnapshotsStay(t *testing.T) {
	takesLong(t)
	s := api.Setup{Parts: 2, Workers: 2, Slots: 60, Leases: 3, Source: pairs(1, 10, far, 20)}
	ahead := []api.Call{put(1, 1), snap(0), put(1, 2), put(far, 2), snap(1), drop(1), many(far, 4, far+1, 5), snap(2), name(9, 2)}
	calls := slices.Clone(ahead)
	var others []api.Call
	for i := range 6 {
		calls = append(calls, peek(0, 1), peek(0, far), peek(1, 1), peek(1, far), peekNamed(9, 1), peekNamed(9, far))
		others = append(others, put(1, 10+i), trim(0), put(far, i), trim(1), advance(), advance(), collect())
	}
	tells := map[[3]int][2]int{{8, 0, 1}: {1, 1}, {8, 0, far}: {20, 1}, {8, 1, 1}: {2, 1}, {8, 1, far}: {2, 1}, {11, 9, 1}: {0, 0}, {11, 9, far}: {4, 1}}
	calls = append(calls, free(0), trim(0), trim(1), peek(1, 1), peekNamed(9, far), free(1), unname(9), trim(0), trim(1), get(1))
	backs := 0
	for seed := range 30 {
		x := mixed{s: s, c: work(calls, others)}
		x.c.Turns = make([]int, linesOf(s, ahead...))
		m := mixer(seed)
		for range 300 {
			x.c.Turns = append(x.c.Turns, slices.Repeat([]int{m.below(2)}, 1+m.below(6))...)
		}
		f := check(t, x)
		backs += f.back
		for i, a := range f.run.Answers[0] {
			c := calls[i]
			if want, asked := tells[[3]int{c.Kind, c.A, c.B}]; asked && (a.Err != api.OK || a.N != want[0] || bit(a.Ok) != want[1]) {
				t.Fatalf("P32.7: seed %d: call %d: %+v: %+v", seed, i, c, a)
			}
		}
		if f.run.Cut {
			t.Fatalf("P32.7: %+v", f.run)
		}
	}
	if backs < 50 {
		t.Errorf("the cases are too plain: %d", backs)
	}
}

// deed: a call of a worker.
type deed struct {
	k int
	c api.Call
}

// tidied: a case whose workers first do their calls, mixed, and let go of all that they hold; then come, one behind the other, a Trim of each part, each by whoever, two Advances, and a Collect by each worker.
func (m *mixer) tidied(x mixed) mixed {
	n := min(len(x.c.Work), x.s.Workers)
	first := make([]int, len(x.c.Work)) // how many calls of each come ahead of all that
	for k := range x.c.Work {
		x.c.Work[k] = append(slices.Clone(x.c.Work[k]), free(0), free(1), free(2), free(3))
		if k == 0 {
			x.c.Work[k] = append(x.c.Work[k], unname(0), unname(1), unname(2), unname(3), unname(4))
		}
		first[k] = len(x.c.Work[k])
	}
	var plan []deed
	for part := range x.s.Parts {
		plan = append(plan, deed{m.below(n), trim(part)})
	}
	plan = append(plan, deed{m.below(n), advance()}, deed{m.below(n), advance()})
	for k := range n {
		plan = append(plan, deed{k, collect()})
	}
	for _, d := range plan {
		x.c.Work[d.k] = append(x.c.Work[d.k], d.c)
	}
	next := func(r *runModel, ready []int) int {
		early := slices.DeleteFunc(slices.Clone(ready), func(k int) bool { return len(r.told.Answers[k]) >= first[k] })
		// Worker 0 takes the names away when all others have done theirs.
		if len(early) > 1 && len(r.told.Answers[0]) >= first[0]-5 {
			early = slices.DeleteFunc(early, func(k int) bool { return k == 0 })
		}
		if len(early) > 0 {
			return m.one(early)
		}
		done := 0
		for k := range first {
			done += max(0, len(r.told.Answers[k])-first[k])
		}
		return plan[done].k
	}
	x.c.Halt, x.c.Until = nil, 0
	model := newModel(x.s)
	model.plays = true
	_, picks := model.run(x.c, next)
	x.c.Turns = nil
	for _, p := range picks {
		x.c.Turns = append(x.c.Turns, slices.Index(p.ready, p.k))
	}
	return x
}

// inUse: how many slots are in use, by what a Play's rows tell: of each part that is there 1, and 2n - 1 more, if it has n keys.
func inUse(rows [][]int) int {
	used := 0
	for _, row := range rows[3:] {
		if row[0] == 2 {
			n := (len(row) - 3) / 2
			used += 1 + max(0, 2*n-1)
		}
	}
	return used
}

// P32.3: memory comes back, whatever was done ahead.
func TestMemoryComesBack(t *testing.T) {
	takesLong(t)
	m := mixer(9)
	counts := map[string]int{}
	for i := range 900 {
		x := m.busyCase()
		if i%3 != 0 {
			x = m.mixed(manners{wild: i%3 == 1})
		}
		x = m.tidied(x)
		run, left := wantModel(t, "P32.3", x)
		_, rows, _ := store.Play(x.s, x.c)
		if used := inUse(rows); run.Cut || len(run.Open) != 0 || left.used() != used || rows[0][1] != x.s.Slots-used || rows[0][2] != 0 || slices.Max(rows[1]) != 0 || len(rows[2]) != 0 {
			t.Fatalf("P32.3: %+v: %d slots are in use, %v, want %d", x, left.used(), rows, used)
		}
		for k, answers := range run.Answers {
			for i, a := range answers {
				if x.c.Work[k][i].Kind == 14 && a.N > 0 {
					counts["given back"] += a.N
				}
			}
		}
		counts["in use"] += left.used()
		counts["empty parts"] += bit(slices.ContainsFunc(rows[3:], func(row []int) bool { return len(row) == 3 }))
		counts["parts that aren't there"] += bit(slices.ContainsFunc(rows[3:], func(row []int) bool { return row[0] == 0 }))
	}
	if counts["given back"] < 5000 || counts["in use"] < 2000 || counts["empty parts"] < 50 || counts["parts that aren't there"] < 50 {
		t.Errorf("the cases are too plain: %v", counts)
	}
}

// Of a pool of few slots all come back again and again: so writes that were refused go well behind it.
func TestMemoryComesBackAgainAndAgain(t *testing.T) {
	for slots := 6; slots <= 12; slots++ {
		r := newReal(t, api.Setup{Parts: 1, Workers: 1, Slots: slots, Leases: 1, Source: pairs(1, 0)})
		r.do(t, get(1))
		for i := range 60 {
			writes := 0
			for {
				_, err := r.Put(nil, 1, 1000*i+writes+1)
				if err == noRoom {
					break
				}
				if writes++; err != api.OK {
					t.Fatalf("P32.3: %d slots, round %d: %v", slots, i, err)
				}
			}
			n, err := r.Trim(nil, 0)
			r.Advance(nil)
			r.Advance(nil)
			back, e := r.Collect(nil)
			if writes != (slots-2)/2 || n != 2*writes || err != api.OK || back != n || e != api.OK || len(r.Pool().Free()) != slots-2 || r.Pool().Faults() != 0 {
				t.Fatalf("P32.3: %d slots, round %d: %d writes, %d, %v, %d, %v", slots, i, writes, n, err, back, e)
			}
		}
	}
}

// P32.10: calls alone answer what a plain map, and copies of it for snapshots, would.
func TestAlone(t *testing.T) {
	takesLong(t)
	m := mixer(31)
	counts := map[string]int{}
	for round := range 250 {
		s := api.Setup{Parts: m.one([]int{1, 2, 3, mostParts}), Workers: 1, Slots: mostSlots, Leases: 1 + m.below(4), Source: m.pairs(manners{}, 9)}
		p := newPlainStore(s)
		r := newReal(t, s)
		for i := range 250 {
			c := m.call(manners{wild: m.below(4) == 0}, s.Parts)
			if i%7 == 0 {
				for part := range s.Parts {
					r.Trim(nil, part)
				}
				r.Advance(nil)
				r.Advance(nil)
				r.Collect(nil)
			}
			if c.Kind == 12 || c.Kind == 13 || c.Kind == 14 {
				continue
			}
			want := p.do(c)
			if got := r.calls.Do(nil, c); !sameAnswer(got, want) {
				t.Fatalf("P32.10: round %d, call %d: %+v: %+v, want %+v", round, i, c, got, want)
			}
			counts[fmt.Sprint(c.Kind, want.Err == api.OK, want.Ok)]++
		}
		if r.Pool().Faults() != 0 {
			t.Fatalf("P32.2: %d faults", r.Pool().Faults())
		}
		for i, row := range r.calls.Rows()[3:] {
			want, got := map[int]int{}, map[int]int{}
			maps.Copy(want, p.held)
			maps.DeleteFunc(want, func(key, _ int) bool { return !isOf(key, i, s.Parts) })
			for j := 3; j < len(row); j += 2 {
				got[row[j]] = row[j+1]
			}
			if row[0] == 2 && !maps.Equal(want, got) {
				t.Fatalf("P32.10: part %d holds %v, want %v", i, got, want)
			}
		}
	}
	for _, what := range []string{"1 true true", "1 true false", "2 true true", "2 true false", "3 true true", "3 true false", "4 true true", "4 false false", "5 true true", "5 true false", "6 true true", "6 false false", "7 true true", "8 true true", "8 true false", "9 true true", "9 false false", "10 true true", "10 false false", "11 true true", "11 true false", "11 false false", "15 true true"} {
		if counts[what] < 10 {
			t.Errorf("the calls are too plain: %q comes %d times", what, counts[what])
		}
	}
}

// plainStore: a plain map, copies of it for snapshots, and how often each part was changed, and is there.
type plainStore struct {
	held      map[int]int
	numbers   []int // by part; 1 as long as nothing was changed
	stamp     int
	leases    []*plainCopy
	registers [4]*plainCopy
	names     map[int]*plainCopy
}

type plainCopy struct {
	held         map[int]int
	numbers      []int
	lease, stamp int
}

func newPlainStore(s api.Setup) *plainStore {
	return &plainStore{held: plainly(s.Source), numbers: slices.Repeat([]int{1}, s.Parts), stamp: 1, leases: make([]*plainCopy, s.Leases), names: map[int]*plainCopy{}}
}

func (p *plainStore) do(c api.Call) api.Answer {
	switch {
	case c.Kind >= 1 && c.Kind <= 5:
		return p.ofKey(c)
	case c.Kind >= 6 && c.Kind <= 9:
		return p.byRegister(c)
	case c.Kind == 10 || c.Kind == 11:
		return p.byName(c)
	case c.Kind == 15:
		var list []api.Pair
		for _, n := range slices.Sorted(maps.Keys(p.names)) {
			list = append(list, api.Pair{Key: n, Value: p.names[n].stamp})
		}
		return api.Answer{Ok: true, Pairs: list}
	}
	return failed(noCall)
}

func (p *plainStore) ofKey(c api.Call) api.Answer {
	part := target(c, len(p.numbers))
	if part < 0 || slices.ContainsFunc(c.Pairs, func(x api.Pair) bool { return !isOf(x.Key, part, len(p.numbers)) }) {
		return failed(noKey)
	}
	if c.Kind == 1 {
		value, had := p.held[c.A]
		return api.Answer{Ok: had, N: value, M: p.numbers[part]}
	}
	told, err := tellsOf(p.held, c)
	p.numbers[part] += bit(told.New)
	told.Number = p.numbers[part]
	return played(c.Kind, told, err)
}

func (p *plainStore) byRegister(c api.Call) api.Answer {
	n := c.A
	if c.Kind == 9 {
		n = c.B
	}
	if n < 0 || n > 3 || c.Kind == 6 && p.registers[n] != nil {
		return failed(noCall)
	}
	is := &p.registers[n]
	switch {
	case c.Kind == 6:
		i := slices.Index(p.leases, nil)
		if i < 0 {
			return failed(noLeases)
		}
		*is = &plainCopy{maps.Clone(p.held), slices.Clone(p.numbers), i, p.stamp}
		p.leases[i] = *is
		p.stamp++
		return held(i, (*is).stamp)
	case *is == nil:
		return failed(noSnap)
	case c.Kind == 7:
		p.leases[(*is).lease] = nil
		*is = nil
		return good()
	case c.Kind == 8:
		return (*is).peek(c.B)
	case !isKey(c.A):
		return failed(noName)
	case p.names[c.A] != nil:
		return failed(isTaken)
	case len(p.names) == mostNames:
		return failed(allNamed)
	}
	p.names[c.A] = *is
	*is = nil
	return good()
}

func (p *plainStore) byName(c api.Call) api.Answer {
	is := p.names[c.A]
	switch {
	case c.Kind == 11 && !isKey(c.B):
		return failed(noKey)
	case !isKey(c.A):
		return failed(noName)
	case is == nil:
		return failed(unknown)
	case c.Kind == 11:
		return is.peek(c.B)
	}
	delete(p.names, c.A)
	p.leases[is.lease] = nil
	return good()
}

func (p *plainCopy) peek(key int) api.Answer {
	part := partOf(key, len(p.numbers))
	if part < 0 {
		return failed(noKey)
	}
	value, had := p.held[key]
	return api.Answer{Ok: had, N: value, M: p.numbers[part]}
}
