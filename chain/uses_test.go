package chain_test

import (
	"runtime"
	"slices"
	"sync/atomic"
	"testing"

	"skein/api"
	"skein/crew"
)

// ended: a call that ended.
type ended struct {
	call api.Call
	api.Answer
}

// looked: a case, and what there is behind each of its steps; a case that is cut there tells it.
type looked struct {
	x       mixed
	calls   []ended
	moments []state // the first one: ahead of all steps
}

func look(t *testing.T, x mixed) looked {
	t.Helper()
	x.c.Until = 0
	run, err := crew.Run(x.c, newReal(t, x.slots, x.leases))
	if err != api.OK {
		t.Fatalf("%+v: %v", x, err)
	}
	l := looked{x: x, moments: []state{newState(x.slots, x.leases)}}
	for until := 1; until <= run.Steps; until++ {
		x.c.Until = until
		r := newReal(t, x.slots, x.leases)
		if _, err := crew.Run(x.c, r); err != api.OK {
			t.Fatalf("%+v: %v", x, err)
		}
		l.moments = append(l.moments, r.state())
	}
	for k, answers := range run.Answers {
		for i, a := range answers {
			l.calls = append(l.calls, ended{x.c.Work[k][i], a})
		}
	}
	slices.SortFunc(l.calls, func(a, b ended) int { return a.End - b.End })
	return l
}

// of: the calls of a Kind, in the order of their last lines.
func (l looked) of(kind int) []ended {
	return slices.DeleteFunc(slices.Clone(l.calls), func(e ended) bool { return e.call.Kind != kind })
}

// found: what was looked at, so that the cases aren't too plain.
type found struct{ open, versions, shown, kept, cuts, sets int }

func (f *found) add(o found) {
	f.open += o.open
	f.versions += o.versions
	f.shown += o.shown
	f.kept += o.kept
	f.cuts += o.cuts
	f.sets += o.sets
}

// check holds the three promises against a case of Play's calls.
func check(t *testing.T, x mixed) found {
	t.Helper()
	l := look(t, x)
	var f found
	l.checkStamps(t, &f)
	l.checkAts(t, &f)
	l.checkCuts(t, &f)
	if last := l.moments[len(l.moments)-1]; last.faults != 0 {
		t.Fatalf("%+v: %d faults", x, last.faults)
	}
	return f
}

func (s state) stamp(h int) int { return s.slots[h>>40-1].Mark }

// checkStamps: at each moment, and from each one to the next.
func (l looked) checkStamps(t *testing.T, f *found) {
	t.Helper()
	stamps := map[int]int{} // by handle, of all that ever were versions
	for step, s := range l.moments {
		newer := s.now
		for i, h := range s.versions {
			stamp := s.stamp(h)
			if stamp == 0 && i == 0 {
				f.open++
				continue
			}
			if stamp < 1 || stamp > newer {
				t.Fatalf("P14.10: %+v: behind step %d: %+v", l.x, step, s)
			}
			newer = stamp
			stamps[h] = stamp
			f.versions++
		}
		for h, stamp := range stamps {
			if s.stamp(h) != stamp {
				t.Fatalf("P14.10: %+v: behind step %d: the stamp of %d was %d: %+v", l.x, step, h, stamp, s)
			}
		}
	}
}

// checkAts: what an At of a Take's stamp told is told by all later ones, as long as nothing of it is cut off. A first version counts as there from the beginning, so that one may be told behind none.
func (l looked) checkAts(t *testing.T, f *found) {
	t.Helper()
	last := l.moments[len(l.moments)-1]
	isFirst := func(h int) bool {
		return slices.ContainsFunc(l.of(1), func(e ended) bool { return e.Ok && e.N == h })
	}
	for _, taken := range l.of(6) {
		var ahead *ended
		for _, a := range l.of(4) {
			if taken.Err != api.OK || a.call.A != taken.M || a.Begin <= taken.End {
				continue
			}
			if slices.ContainsFunc(l.of(5), func(c ended) bool {
				return c.End <= a.End && c.N != 0 && (last.stamp(c.N) > taken.M || ahead != nil && ahead.N == c.N)
			}) {
				break
			}
			if a.Ok && last.stamp(a.N) > taken.M {
				t.Fatalf("P14.6: %+v: At(%d) tells a version of a later stamp: %+v", l.x, taken.M, a)
			}
			if ahead != nil {
				f.kept++
				if a.N != ahead.N && !(ahead.N == 0 && isFirst(a.N)) {
					t.Fatalf("P14.11: %+v: At(%d) told %+v, and then %+v", l.x, taken.M, *ahead, a)
				}
			}
			ahead = &a
			f.shown++
		}
	}
}

// checkCuts: each link, and each set, is told once at most. (Sets of these cases have numbers of their own.)
func (l looked) checkCuts(t *testing.T, f *found) {
	t.Helper()
	links, numbers := map[int]bool{}, map[int]bool{}
	for _, a := range l.of(5) {
		if a.N == 0 {
			continue
		}
		if links[a.N] {
			t.Fatalf("P14.12: %+v: %d was told twice", l.x, a.N)
		}
		links[a.N] = true
		f.cuts++
		for _, n := range a.Ints {
			if numbers[n] {
				t.Fatalf("P14.12: %+v: the set of %+v was told twice", l.x, a)
			}
			numbers[n] = true
			f.sets++
		}
	}
}

func TestPromisesOfMixedPlays(t *testing.T) {
	var all found
	mixedPlays(600, manners{}, func(x mixed) { all.add(check(t, x)) })
	if all.open < 200 || all.versions < 20000 || all.shown < 100 || all.kept < 10 || all.cuts < 20 || all.sets < 20 {
		t.Errorf("the cases are too plain: %+v", all)
	}
}

// busy: a case in which all have something to ask and to change.
func (m *mixer) busy() mixed {
	x := mixed{slots: 20, leases: 3}
	for range 3 {
		var calls []api.Call
		for i := range 4 {
			calls = append(calls, top(), push(i, int(*m>>1)), move(), at(1+m.below(4)))
			if m.below(4) == 0 {
				calls = append(calls, cut())
			}
		}
		x.c.Work = append(x.c.Work, calls)
	}
	x.c.Work[0] = append([]api.Call{first(1)}, x.c.Work[0]...)
	for range 150 {
		x.c.Turns = append(x.c.Turns, m.below(6))
	}
	return x
}

func TestPromisesOfBusyCases(t *testing.T) {
	var all found
	m := mixer(2)
	for range 40 {
		all.add(check(t, m.busy()))
	}
	if all.open < 200 || all.shown < 200 || all.kept < 100 || all.cuts < 20 || all.sets < 20 {
		t.Errorf("the cases are too plain: %+v", all)
	}
}

// Every order of a Push and what others do meanwhile.
func TestPromisesInEveryOrder(t *testing.T) {
	var all found
	for _, calls := range [][2][]api.Call{
		{{push(2, 5)}, {move(), at(1), at(1)}},
		{{push(2, 5), at(1)}, {move(), at(1)}},
		{{push(2, 5), cut()}, {push(3, 6), top(), cut()}},
		{{push(2, 5), top(), cut()}, {top(), cut(), move()}},
		{{push(2), move()}, {top(), push(3), at(1)}},
	} {
		orders(2, 9, func(turns []int) { all.add(check(t, mixed{4, 1, inHand(calls, turns)})) })
	}
	if all.open < 1000 || all.shown < 1000 || all.kept < 500 || all.cuts < 500 || all.sets < 500 {
		t.Errorf("the orders are too plain: %+v", all)
	}
}

// Whoever is halted in the midst of settling: the others settle for it, with one stamp, whatever was loaded.
func TestPromisesBehindHalts(t *testing.T) {
	var all found
	for halt := 1; halt <= 7; halt++ {
		for moves := range 3 {
			c := inHand([2][]api.Call{{push(2, 5)}, slices.Concat(many(moves, move()), []api.Call{top(), at(1), push(3, 6), move(), at(1), at(2), top(), cut()})}, nil)
			c.Turns, c.Halt = append(c.Turns, make([]int, halt)...), []int{7 + halt}
			all.add(check(t, mixed{9, 1, c}))
			run, left := wantModel(t, "P14.10", mixed{9, 1, c})
			want := 0
			switch {
			case halt == 7:
				want = 1
			case halt >= 4:
				want = 1 + moves
			}
			if got := left.stamp(two); run.Answers[1][0].Err != api.OK || halt >= 4 && got != want {
				t.Errorf("P14.10: halted behind %d lines of the Push, %d moves: stamp %d, want %d", halt, moves, got, want)
			}
		}
	}
	if all.open == 0 || all.cuts == 0 {
		t.Errorf("the cases are too plain: %+v", all)
	}
}

// A settler that is slow: it loaded now ahead of a Take, and does its cas behind it. Whoever asks by that Take's stamp settles first, so what it is told stays.
func TestSlowSettler(t *testing.T) {
	for lines := range 8 {
		r := after(t, first(10))
		a, others := r.broken(t, pushOn(one, 20), lines, move(), at(1), at(1))
		behind := r.by(t, at(1))
		want := one
		if lines == 7 {
			want = two
		}
		for _, b := range append(others[1:], behind) {
			if !a.Ok || b.N != want {
				t.Errorf("P14.11: a Push broken off behind %d lines: %+v, %+v, want %d", lines, others, behind, want)
			}
		}
	}
}

// loose does f by so many workers, without turns; all have come when they begin.
func loose(t *testing.T, promise string, workers int, f func(w *crew.Worker) []int) {
	t.Helper()
	var come atomic.Int64
	c := api.Case{Work: slices.Repeat([][]api.Call{{{}}}, workers)}
	answers, err := crew.Loose(c, does(func(w *crew.Worker, _ api.Call) api.Answer {
		come.Add(1)
		for come.Load() < int64(workers) {
			runtime.Gosched()
		}
		return api.Answer{Ints: f(w)}
	}))
	if err != api.OK || len(answers) != workers {
		t.Fatalf("Loose: %v, %v", answers, err)
	}
	for k, list := range answers {
		if len(list) != 1 || list[0].Err != api.OK || len(list[0].Ints) > 0 {
			t.Fatalf("%s: worker %d finds %+v", promise, k, list)
		}
	}
}

// Without turns, too, there is one first version, and what the others took is free again.
func TestLooseFirsts(t *testing.T) {
	for range 300 {
		r := newReal(t, 16, 1)
		var good atomic.Int64
		loose(t, "P14.3", 8, func(w *crew.Worker) []int {
			h, err := r.x.First(w, api.Node{A: w.Number()})
			switch {
			case err == api.OK && h != 0:
				good.Add(1)
			case err != api.ErrChainOnce || h != 0:
				return []int{h, int(err)}
			}
			if g, stamp, err := r.x.Top(w); g == 0 || stamp != 1 || err != api.OK {
				return []int{g, stamp, int(err)}
			}
			return nil
		})
		if good.Load() != 1 || len(r.p.Free()) != 15 || len(r.x.Versions()) != 1 {
			t.Fatalf("P14.3: %d Firsts, %+v", good.Load(), r.state())
		}
	}
}

// add publishes a version behind the newest one, whichever that is then; its node's A counts the versions, its set is made by its own number alone.
func (r real) add(w *crew.Worker) (int, api.Errno) {
	list := make([]int, 2)
	for {
		old, _, err := r.x.Top(w)
		if err != api.OK {
			return 0, err
		}
		x, err := r.p.Read(w, old)
		if err != api.OK {
			return 0, err
		}
		list[0], list[1] = x.A+1, -x.A-1
		h, ok, err := r.x.Push(w, old, api.Node{A: x.A + 1}, list)
		list[0], list[1] = -99, -99 // the list is its owner's
		if ok || err != api.OK {
			return h, err
		}
	}
}

// Without turns, too, each version gets one stamp, whoever settles it, and stamps go up with versions; each version is laid upon the one that its writer read.
func TestLooseWriters(t *testing.T) {
	const each, slots = 100, 900
	r := newReal(t, slots, 8).do(t, first(0))
	stamps := make([]atomic.Int64, slots+1)
	loose(t, "P14.10", 8, func(w *crew.Worker) []int {
		last := 0
		for round := range each {
			if _, err := r.add(w); err != api.OK {
				return []int{round, int(err)}
			}
			h, stamp, err := r.x.Top(w)
			now := r.c.Now(w)
			known := &stamps[h>>40]
			if !known.CompareAndSwap(0, int64(stamp)) && int(known.Load()) != stamp {
				return []int{round, h, stamp, int(known.Load())}
			}
			if err != api.OK || stamp < last || stamp > now {
				return []int{round, stamp, last, now, int(err)}
			}
			last = stamp
			if round%5 == 0 {
				s, _ := r.c.Take(w)
				r.c.Release(w, s.Lease)
			}
		}
		return nil
	})
	s := r.state()
	if len(s.versions) != 8*each+1 || len(s.free) != slots-8*each-1 || s.faults != 0 {
		t.Fatalf("P14.5: %d versions, %d free, %d faults", len(s.versions), len(s.free), s.faults)
	}
	newer := s.now
	for i, h := range s.versions {
		x := s.slots[h>>40-1]
		if x.Node.A != 8*each-i || x.Mark < 1 || x.Mark > newer {
			t.Fatalf("P14.10: version %d: %+v, the one behind it %d", i, x, newer)
		}
		newer = x.Mark
		want := []int{x.Node.A, -x.Node.A}
		if x.Node.A == 0 {
			want = nil
		}
		if got := s.sets[h>>40-1]; !slices.Equal(got, want) {
			t.Fatalf("P14.5: the set of version %d: %v", x.Node.A, got)
		}
	}
}

// Without turns, too, what a snapshot shows stays what it is, as long as nothing is cut; a later one shows no elder version.
func TestLooseSnapshots(t *testing.T) {
	r := newReal(t, mostSlots, 8).do(t, first(0))
	var writers atomic.Int64
	writers.Store(4)
	loose(t, "P14.11", 8, func(w *crew.Worker) []int {
		if w.Number() < 4 {
			defer writers.Add(-1)
			for round := range 600 {
				if _, err := r.add(w); err != api.OK {
					return []int{round, int(err)}
				}
				if round%32 == 0 {
					runtime.Gosched()
				}
			}
			return nil
		}
		last := 0
		for round := 0; writers.Load() > 0 || round < 50; round++ {
			s, err := r.c.Take(w)
			if err != api.OK {
				return []int{round, int(err)}
			}
			shown, _ := r.x.At(w, s.Stamp)
			for range 5 {
				runtime.Gosched()
				if h, err := r.x.At(w, s.Stamp); h != shown || err != api.OK {
					return []int{round, s.Stamp, h, shown, int(err)}
				}
			}
			x, err := r.p.Read(w, shown)
			stamp, _ := r.p.Mark(w, shown)
			if err != api.OK || x.A < last || stamp > s.Stamp || stamp < 1 {
				return []int{round, x.A, last, stamp, s.Stamp}
			}
			last = x.A
			r.c.Release(w, s.Lease)
		}
		return nil
	})
	if r.p.Faults() != 0 || len(r.x.Versions()) != 2401 {
		t.Errorf("P14.11: %d faults, %d versions", r.p.Faults(), len(r.x.Versions()))
	}
}

// Without turns, too, each link and each set is told to one alone, whoever cuts what, also while others push; and all are told in the end.
func TestLooseCuts(t *testing.T) {
	const each = 500
	r := newReal(t, mostSlots, 1).do(t, first(0))
	var newestNow atomic.Int64
	newestNow.Store(int64(one))
	times := make([]atomic.Int64, mostSlots+1) // by slot how often a Cut told it
	sets := make([]atomic.Int64, mostSlots+1)  // by a version's number how often its set was told
	cutAll := func(w *crew.Worker, h int) []int {
		for h != 0 {
			x, _ := r.p.Read(w, h)
			link, set, err := r.x.Cut(w, h)
			if err != api.OK || link == 0 && len(set) != 0 || link != 0 && !slices.Equal(set, []int{x.A, -x.A}) {
				return []int{h, link, int(err), len(set)}
			}
			if link != 0 {
				times[link>>40].Add(1)
				sets[x.A].Add(1)
			}
			h = link
		}
		return nil
	}
	loose(t, "P14.12", 8, func(w *crew.Worker) []int {
		for round := range each {
			h, err := r.add(w)
			if err != api.OK {
				return []int{round, int(err)}
			}
			newestNow.Store(int64(h))
			if round%7 == w.Number()%7 {
				if bad := cutAll(w, int(newestNow.Load())); bad != nil {
					return bad
				}
			}
		}
		return nil
	})
	for _, h := range r.x.Versions() {
		if bad := cutAll(nil, h); bad != nil {
			t.Fatalf("P14.12: %v", bad)
		}
	}
	newest, _, _ := r.x.Top(nil)
	for i := 1; i <= 8*each+1; i++ {
		want := int64(1)
		if i == newest>>40 {
			want = 0
		}
		if n := times[i].Load(); n != want {
			t.Fatalf("P14.12: slot %d was told %d times", i, n)
		}
		if n := sets[i].Load(); i <= 8*each && n != 1 {
			t.Fatalf("P14.12: the set of version %d was told %d times", i, n)
		}
	}
	if !slices.Equal(r.x.Versions(), []int{newest}) || r.p.Faults() != 0 {
		t.Errorf("P14.12: %d versions, %d faults", len(r.x.Versions()), r.p.Faults())
	}
}

// Two, and more, cut one version at once: one is told.
func TestLooseCutsOfOne(t *testing.T) {
	for range 300 {
		r := after(t, first(1), pushOn(one, 2, 5, 6))
		var told, empty atomic.Int64
		loose(t, "P14.12", 8, func(w *crew.Worker) []int {
			link, set, err := r.x.Cut(w, two)
			switch {
			case err == api.OK && link == one && slices.Equal(set, []int{5, 6}):
				told.Add(1)
			case err == api.OK && link == 0 && len(set) == 0:
				empty.Add(1)
			default:
				return []int{link, int(err), len(set)}
			}
			return nil
		})
		if told.Load() != 1 || empty.Load() != 7 {
			t.Fatalf("P14.12: %d were told, %d weren't", told.Load(), empty.Load())
		}
	}
}

// Workers that give back and cut what others are at: all calls end, nobody falls, and no set is another version's.
func TestLooseWildCalls(t *testing.T) {
	r := newReal(t, 6, 2).do(t, first(1))
	loose(t, "rule 1", 8, func(w *crew.Worker) []int {
		m := mixer(w.Number())
		for range 4000 {
			h, _, err := r.x.Top(w)
			if err != api.OK && err != api.ErrPoolGone {
				return []int{int(err)}
			}
			guess := word(1+m.below(6), 1+2*m.below(200))
			switch m.below(6) {
			case 0, 1:
				r.x.Push(w, h, api.Node{A: 1}, []int{h, h})
			case 2:
				r.x.Push(w, guess, api.Node{A: 1}, []int{guess, guess})
			case 3:
				link, set, _ := r.x.Cut(w, h)
				if len(set) > 0 && (set[0] != link || len(set) != 2) {
					return append([]int{h, link}, set...)
				}
				if link != 0 {
					r.p.Give(w, link)
				}
			case 4:
				r.x.At(w, m.below(5))
				r.x.First(w, api.Node{})
			case 5:
				r.x.Cut(w, guess)
			}
		}
		return nil
	})
}
