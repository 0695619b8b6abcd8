package pool_test

import (
	"runtime"
	"slices"
	"sort"
	"sync/atomic"
	"testing"

	"skein/api"
	"skein/crew"
	"skein/pool"
)

// event: a line at which a call does what it is for: a Give's first one (its handle is gone) and its last one (its slot is free), all others' last one.
type event struct {
	at     int
	call   api.Call // its handle by itself, not by a name
	answer api.Answer
	free   bool // a Give's last line
}

// events of a run, in the order of their steps.
func events(c api.Case, run api.Run) []event {
	var all []event
	for k, answers := range run.Answers {
		var taken []int
		for i, a := range answers {
			call := c.Work[k][i]
			if call.Kind > 1 {
				call.A = named(taken, call.A)
			}
			taken = append(taken, tookBy(call, a))
			if call.Kind == 2 && a.Err == api.OK {
				all = append(all, event{a.Begin, call, a, false}, event{a.End, call, a, true})
			} else {
				all = append(all, event{a.End, call, a, false})
			}
		}
		for _, o := range run.Open {
			if o.Worker != k || c.Work[k][len(answers)].Kind != 2 {
				continue
			}
			// A Give that is open has done its first line well.
			h := named(taken, c.Work[k][len(answers)].A)
			all = append(all, event{o.Begin, give(h), api.Answer{Own: 4}, false})
		}
	}
	sort.Slice(all, func(i, j int) bool { return all[i].at < all[j].at })
	return all
}

// plain: a pool as a map from handles to what they hold, and a stack.
type plain struct {
	live   map[int]*api.Slot
	gens   []int // by slot; that of 0 is idle
	stack  []int
	faults int
}

func newPlain(n int) *plain {
	return &plain{live: map[int]*api.Slot{}, gens: make([]int, n+1), stack: upTo(n)}
}

// do does an event; it tells what is amiss.
func (p *plain) do(e event) string {
	a, h := e.answer, e.call.A
	switch {
	case e.call.Kind == 1:
		return p.take(e)
	case e.call.Kind == 9:
		if !slices.Equal(a.Ints, p.stack) {
			return "a Look"
		}
		return ""
	case e.call.Kind == 8:
		return p.between(a.Ints)
	case e.free:
		p.stack = append([]int{h >> 40}, p.stack...)
		return ""
	}
	s := p.live[h]
	if !isHandle(h, len(p.gens)-1) {
		return amiss(!sameAnswer(a, api.Answer{Err: api.ErrPoolHandle}) || a.Own != 1, "no handle")
	}
	if s == nil {
		if e.call.Kind != 2 {
			p.faults++
		}
		return amiss(!sameAnswer(a, api.Answer{Err: api.ErrPoolGone}) || a.Own != 1, "a handle that is gone")
	}
	return p.good(e, s)
}

func amiss(bad bool, what string) string {
	if bad {
		return what
	}
	return ""
}

func isHandle(h, n int) bool { return h >= 0 && h>>40 >= 1 && h>>40 <= n && h%2 == 1 }

func (p *plain) take(e event) string {
	a := e.answer
	if len(p.stack) == 0 {
		return amiss(!sameAnswer(a, api.Answer{Err: api.ErrPoolFull}) || a.Own%3 != 1, "a Take of a full pool")
	}
	i := p.stack[0]
	p.gens[i]++
	p.stack = p.stack[1:]
	p.live[a.N] = &api.Slot{Node: api.Node{A: e.call.A, B: e.call.B}, Link: e.call.C}
	return amiss(!sameAnswer(a, api.Answer{N: word(i, p.gens[i])}) || p.gens[i]%2 == 0 || a.Own%3 != 0, "a Take")
}

// good does a call of a good handle.
func (p *plain) good(e event, s *api.Slot) string {
	want := api.Answer{}
	switch e.call.Kind {
	case 2:
		delete(p.live, e.call.A)
		p.gens[e.call.A>>40]++
		return amiss(!sameAnswer(e.answer, want) || e.answer.Own%3 != 1 || e.answer.Own < 4, "a Give")
	case 3:
		want.Ints = []int{s.Node.A, s.Node.B, 0, 0}
	case 4:
		want.N = s.Mark
	case 5:
		if want.Ok = s.Mark == e.call.B; want.Ok {
			s.Mark = e.call.C
		}
	case 6:
		want.N = s.Link
	case 7:
		want.N, s.Link = s.Link, e.call.B
	}
	return amiss(!sameAnswer(e.answer, want) || e.answer.Own != 1, "a call of a good handle")
}

// between: what Gens told can't be beyond what the generations are when it ends, and of a free slot its mark is known.
func (p *plain) between(ints []int) string {
	if len(ints) != 2*len(p.gens)-2 {
		return "Gens' length"
	}
	for i, gen := range p.gens[1:] {
		told, mark := ints[2*i], ints[2*i+1]
		if told > gen || told == 0 && mark != 0 || told > 0 && told%2 == 0 && mark != poison {
			return "Gens"
		}
	}
	return ""
}

// slots: what Slots must tell.
func (p *plain) slots() []api.Slot {
	var list []api.Slot
	for i, gen := range p.gens[1:] {
		s := api.Slot{}
		if gen > 0 {
			s = given(gen)
		}
		if l := p.live[word(i+1, gen)]; l != nil {
			s = *l
			s.Gen = gen
		}
		list = append(list, s)
	}
	return list
}

// check holds what a pool is for against a run without a Back, and behind it, if nobody is in the midst, what Takes answer.
func check(t *testing.T, x mixed) {
	t.Helper()
	p := newPool(t, x.n)
	run, err := crew.Run(x.c, byName(p))
	if err != api.OK {
		t.Fatalf("P10.6: %+v: %v", x, err)
	}
	q := newPlain(x.n)
	handles := map[int]bool{}
	gave := map[int]bool{}
	for _, e := range events(x.c, run) {
		if what := q.do(e); what != "" {
			t.Fatalf("P10.6: %+v: %s at step %d: %+v", x, what, e.at, e)
		}
		if h := tookBy(e.call, e.answer); h != 0 {
			if handles[h] {
				t.Fatalf("P10.6: %+v: the handle %d is taken twice", x, h)
			}
			handles[h] = true
		}
		if h := e.call.A; e.call.Kind > 1 && e.call.Kind < 8 && e.answer.Err == api.OK && !e.free {
			if !handles[h] || gave[h] {
				t.Fatalf("P10.6: %+v: step %d goes by the handle %d, which isn't good", x, e.at, h)
			}
			gave[h] = e.call.Kind == 2
		}
	}
	wantPool(t, "P10.6", p, state{q.slots(), q.stack, q.faults})
	if len(run.Open) == 0 {
		checkRest(t, x, p)
	}
}

// checkRest: nobody is in the midst of a call.
func checkRest(t *testing.T, x mixed, p *pool.Pool) {
	t.Helper()
	var even []int
	for i, s := range p.Slots() {
		if s.Gen%2 == 0 {
			even = append(even, i+1)
		}
	}
	free := p.Free()
	slices.Sort(free)
	if !slices.Equal(free, even) {
		t.Fatalf("P10.7: %+v: free %v, of even generation %v", x, free, even)
	}
	for k := range even {
		if h, err := p.Take(nil, api.Node{A: k}, 0); err != api.OK || !slices.Contains(even, h>>40) {
			t.Fatalf("P10.7: %+v: Take %d of %d: %d, %v", x, k+1, len(even), h, err)
		}
	}
	if h, err := p.Take(nil, api.Node{}, 0); h != 0 || err != api.ErrPoolFull {
		t.Fatalf("P10.7: %+v: Take behind %d free slots: %d, %v", x, len(even), h, err)
	}
}

func TestUsesInMixedRuns(t *testing.T) {
	mixedPlays(8000, false, func(x mixed) { check(t, x) })
}

// Every order of the lines of few calls, with halts too.
func TestUsesInEveryOrder(t *testing.T) {
	h := word(1, 1)
	for _, calls := range [][][]api.Call{
		{{take(1, 2, 3), give(-1)}, {take(4, 5, 6), read(-1), give(-1)}},
		{{take(1, 2, 3), read(-1)}, {give(h), take(4, 5, 6), read(-2), read(h)}},
		{{take(1, 2, 3), give(-1), take(7, 7, 7)}, {give(h), give(h), read(word(1, 3))}},
		{{look(), gens()}, {take(1, 2, 3), casMark(-1, 0, 5), give(-1)}},
	} {
		for n := 1; n <= 2; n++ {
			orders(2, 11, func(turns []int) { check(t, mixed{n, api.Case{Work: calls, Turns: turns}}) })
			orders(2, 6, func(turns []int) {
				for halt := 1; halt <= 7; halt++ {
					check(t, mixed{n, api.Case{Work: calls, Turns: turns, Halt: []int{halt}}})
					check(t, mixed{n, api.Case{Work: calls, Turns: turns, Halt: []int{0, halt}}})
					check(t, mixed{n, api.Case{Work: calls, Turns: turns, Until: 2 * halt}})
				}
			})
		}
	}
	calls := [][]api.Call{{take(1, 2, 3), give(-1)}, {take(4, 5, 6), give(-1)}, {read(h), give(h), take(7, 8, 9)}}
	orders(3, 7, func(turns []int) {
		check(t, mixed{2, api.Case{Work: calls, Turns: turns}})
		check(t, mixed{2, api.Case{Work: calls, Turns: turns, Halt: []int{5, 0, 3}}})
	})
}

func TestStorm(t *testing.T) {
	for _, n := range []int{1, 2, 3, 8, 40, 4095, 4096} {
		for _, workers := range []int{1, 2, 3, 8} {
			for _, rounds := range []int{0, 1, 2, 500} {
				if free, faults, err := pool.Storm(n, workers, rounds); free != n || faults != 0 || err != api.OK {
					t.Fatalf("P10.5: Storm(%d, %d, %d): %d, %d, %v", n, workers, rounds, free, faults, err)
				}
			}
		}
	}
	for _, n := range []int{1, 7, 4096} {
		if free, faults, err := pool.Storm(n, 8, 10000); free != n || faults != 0 || err != api.OK {
			t.Fatalf("P10.5: Storm(%d, 8, 10000): %d, %d, %v", n, free, faults, err)
		}
	}
}

func TestStormRefuses(t *testing.T) {
	refuses := func(n, workers, rounds int) {
		t.Helper()
		if free, faults, err := pool.Storm(n, workers, rounds); free != 0 || faults != 0 || err != api.ErrPoolMany {
			t.Errorf("P10.5: Storm(%d, %d, %d): %d, %d, %v", n, workers, rounds, free, faults, err)
		}
	}
	noWorkers := []int{lowest, -8, -1, 0, 9, 10, 64, 1 << 32, 1<<32 + 1, highest}
	noRounds := []int{lowest, -10000, -1, 10001, 10002, 20000, 1 << 32, highest}
	for _, n := range noSizes {
		refuses(n, 1, 1)
		refuses(n, 0, 1)
		refuses(n, 1, -1)
	}
	for _, workers := range noWorkers {
		refuses(1, workers, 0)
		refuses(4096, workers, 10000)
		for _, rounds := range noRounds {
			refuses(3, workers, rounds)
			refuses(0, workers, rounds)
		}
	}
	for _, rounds := range noRounds {
		refuses(1, 1, rounds)
		refuses(4096, 8, rounds)
	}
}

func TestStormLeavesNothing(t *testing.T) {
	leavesNothing(t, "P10.5", func() {
		pool.Storm(20, 8, 100)
		pool.Storm(0, 8, 100)
		pool.Storm(3, 8, -1)
	})
}

// loose does f by so many workers, without turns; all have come when they begin.
func loose(t *testing.T, promise string, workers int, f func(w *crew.Worker) []int) {
	t.Helper()
	var come atomic.Int64
	c := api.Case{Work: slices.Repeat([][]api.Call{{{}}}, workers)}
	answers, err := crew.Loose(c, does(func(w *crew.Worker, _ api.Call) api.Answer {
		come.Add(1)
		for come.Load() < int64(workers) {
			runtime.Gosched()
		}
		return api.Answer{Ints: f(w)}
	}))
	if err != api.OK || len(answers) != workers {
		t.Fatalf("Loose: %v, %v", answers, err)
	}
	for k, list := range answers {
		if len(list) != 1 || list[0].Err != api.OK || len(list[0].Ints) > 0 {
			t.Fatalf("%s: worker %d finds %+v", promise, k, list)
		}
	}
}

const often = 2000

// nodeOf: a node that tells its Take.
func nodeOf(worker, round int) api.Node {
	return api.Node{A: worker, B: round, C: -round, D: worker*often + round}
}

// Without turns each worker finds in its slots what it laid there, and nobody else has them: owner is written without a lock by whoever has the slot, so two of them would be a race too.
func TestLooseOwners(t *testing.T) {
	for _, n := range []int{1, 2, 5, 20} {
		p := newPool(t, n)
		owner := make([]int, n+1)
		loose(t, "P10.6", 8, func(w *crew.Worker) []int {
			for round := range often {
				x := nodeOf(w.Number(), round)
				h, err := p.Take(w, x, round)
				if err != api.OK {
					runtime.Gosched()
					continue
				}
				owner[h>>40] = round
				ok, _ := p.CasMark(w, h, 0, round+1)
				y, e := p.Read(w, h)
				v, _ := p.Mark(w, h)
				was, _ := p.SwapLink(w, h, -round)
				is, _ := p.Link(w, h)
				if !ok || y != x || e != api.OK || v != round+1 || was != round || is != -round || owner[h>>40] != round {
					return []int{round, h, v, was, is}
				}
				if p.Give(w, h) != api.OK || p.Give(w, h) != api.ErrPoolGone {
					return []int{round, h}
				}
			}
			return nil
		})
		free := p.Free()
		slices.Sort(free)
		if !slices.Equal(free, upTo(n)) || p.Faults() != 0 {
			t.Fatalf("P10.7: a pool of %d: free %v, %d faults", n, free, p.Faults())
		}
	}
}

// Handles go from hand to hand while their slots are given back and taken again: who goes by an elder one finds that it is gone, or its Take's node; never another one's.
func TestLooseElderHandles(t *testing.T) {
	for _, n := range []int{1, 3} {
		p := newPool(t, n)
		var known [4]atomic.Int64
		var gone atomic.Int64
		took := make([]map[int]api.Node, 8)
		saw := make([]map[int]api.Node, 8)
		loose(t, "P10.6", 8, func(w *crew.Worker) []int {
			k := w.Number()
			took[k], saw[k] = map[int]api.Node{}, map[int]api.Node{}
			r := mixer(k)
			for round := range often {
				if k < 3 {
					x := nodeOf(k, round)
					if h, err := p.Take(w, x, 0); err == api.OK {
						took[k][h] = x
						known[r.below(4)].Store(int64(h))
					}
				}
				h := int(known[r.below(4)].Load())
				if k == 3 || k < 3 && r.below(2) == 0 {
					p.Give(w, h)
					continue
				}
				x, err := p.Read(w, h)
				switch err {
				case api.OK:
					saw[k][h] = x
				case api.ErrPoolGone:
					gone.Add(1)
				case api.ErrPoolHandle:
					runtime.Gosched()
				}
			}
			return nil
		})
		nodes := map[int]api.Node{}
		for _, mine := range took {
			for h, x := range mine {
				if _, there := nodes[h]; there {
					t.Fatalf("P10.6: the handle %d is taken twice", h)
				}
				nodes[h] = x
			}
		}
		for k, seen := range saw {
			for h, x := range seen {
				if want, there := nodes[h]; !there || want != x {
					t.Fatalf("P10.6: worker %d reads %v by the handle %d, want %v", k, x, h, want)
				}
			}
		}
		if p.Faults() != int(gone.Load()) {
			t.Errorf("P10.2: %d faults, %d met", p.Faults(), gone.Load())
		}
	}
}

// Whoever goes by an elder handle changes nothing of the slot's next life.
func TestLooseElderChanges(t *testing.T) {
	p := newPool(t, 1)
	var known atomic.Int64
	var over atomic.Bool
	loose(t, "P10.6: marks and links", 4, func(w *crew.Worker) []int {
		if w.Number() > 0 {
			for !over.Load() {
				h := int(known.Load())
				p.CasMark(w, h, 0, 7)
				p.SwapLink(w, h, 7)
				p.CasMark(w, h, poison, 7)
				runtime.Gosched()
			}
			return nil
		}
		defer over.Store(true)
		for round := range 5 * often {
			h, err := p.Take(w, api.Node{A: round}, 1)
			if err != api.OK {
				return []int{round, int(err)}
			}
			// Nobody knows this handle: what it holds is its own.
			m, _ := p.Mark(w, h)
			l, _ := p.Link(w, h)
			if m != 0 || l != 1 {
				return []int{round, m, l}
			}
			p.Give(w, h)
			if g, marks := p.Gens(w); g[0] != h%(1<<40)+1 || marks[0] != poison {
				return []int{round, g[0], marks[0]}
			}
			if h, err = p.Take(w, api.Node{}, 1); err != api.OK {
				return []int{round, int(err)}
			}
			known.Store(int64(h))
			if round%64 == 0 {
				runtime.Gosched()
			}
			p.Give(w, h)
		}
		return nil
	})
}

// All of them count a mark up, and exchange a link: nothing is lost.
func TestLooseMarksAndLinks(t *testing.T) {
	p := newPool(t, 2)
	h, _ := p.Take(nil, api.Node{}, 0)
	var sum atomic.Int64
	loose(t, "P10.2", 8, func(w *crew.Worker) []int {
		mine := 0
		for round := range 10 * often {
			for {
				v, err := p.Mark(w, h)
				if err != api.OK {
					return []int{round, int(err)}
				}
				if ok, _ := p.CasMark(w, h, v, v+1); ok {
					break
				}
			}
			was, _ := p.SwapLink(w, h, round)
			mine += was - round
		}
		sum.Add(int64(mine))
		return nil
	})
	s := p.Slots()[0]
	if s.Mark != 80*often || int(sum.Load())+s.Link != 0 || p.Faults() != 0 {
		t.Errorf("P10.2: mark %d, want %d; links %d and %d", s.Mark, 80*often, sum.Load(), s.Link)
	}
}

// Of all who give one handle back one does it well.
func TestLooseGivenOnce(t *testing.T) {
	for range 300 {
		p := newPool(t, 3)
		h, _ := p.Take(nil, api.Node{}, 0)
		var gave atomic.Int64
		loose(t, "P10.6", 8, func(w *crew.Worker) []int {
			switch err := p.Give(w, h); err {
			case api.OK:
				gave.Add(1)
			case api.ErrPoolGone:
			default:
				return []int{int(err)}
			}
			return nil
		})
		if gave.Load() != 1 {
			t.Fatalf("P10.6: given back %d times", gave.Load())
		}
		wantPool(t, "P10.6", p, state{[]api.Slot{given(2), {}, {}}, []int{1, 2, 3}, 0})
	}
}

// Of all who bring one lost slot back one does it well.
func TestLooseBackOnce(t *testing.T) {
	for range 100 {
		p := lost(t, 3)
		var came atomic.Int64
		loose(t, "P10.8", 8, func(w *crew.Worker) []int {
			if p.Back(w, 1, 2) == api.OK {
				came.Add(1)
			}
			return nil
		})
		if came.Load() != 1 {
			t.Fatalf("P10.8: brought back %d times", came.Load())
		}
		wantPool(t, "P10.8", p, state{[]api.Slot{given(4), {}, {}}, []int{1, 2, 3}, 0})
	}
}

// Without turns, too, a mark that Gens tells is that of the generation beside it.
func TestLooseGens(t *testing.T) {
	p := newPool(t, 2)
	var over atomic.Bool
	loose(t, "P10.8", 4, func(w *crew.Worker) []int {
		if w.Number() > 0 {
			last := []int{0, 0}
			for !over.Load() {
				g, marks := p.Gens(w)
				for i, gen := range g {
					want := marks[i] == 0 || marks[i] == gen
					if gen%2 == 0 && gen > 0 {
						want = marks[i] == poison
					}
					if !want || gen < last[i] {
						return []int{gen, marks[i], last[i]}
					}
				}
				last = g
				if free := p.Look(w); len(free) > 2 {
					return free
				}
				runtime.Gosched()
			}
			return nil
		}
		defer over.Store(true)
		for round := range 5 * often {
			h, err := p.Take(w, api.Node{A: round}, 0)
			if err != api.OK {
				return []int{round, int(err)}
			}
			p.CasMark(w, h, 0, h%(1<<40))
			if round%64 == 0 {
				runtime.Gosched()
			}
			p.Give(w, h)
		}
		return nil
	})
}
