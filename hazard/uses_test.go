package hazard_test

import (
	"runtime"
	"slices"
	"sync/atomic"
	"testing"

	"skein/api"
	"skein/crew"
	"skein/hazard"
	"skein/pool"
)

// watched does calls over a rack, and holds each against what a rack is for, by what it answers alone.
type watched struct {
	real
	t     *testing.T
	x     mixed
	nodes map[int]api.Node // by handle, what was laid down
	scans map[string]int   // how many Scans there were, of what kind
}

// Do: no two of them are at work at once in a run.
func (b *watched) Do(w *crew.Worker, c api.Call) api.Answer {
	k := w.Number()
	a := b.real.Do(w, c)
	if k >= b.x.s.workers {
		return a
	}
	switch {
	case c.Kind == 4 && a.Err == api.OK:
		b.nodes[a.N] = api.Node{A: c.B, B: c.C}
	case c.Kind == 5 && a.Ok:
		b.nodes[a.N] = api.Node{A: c.C}
	case c.Kind == 7 && a.Err == api.OK:
		b.scanned(k, a)
	}
	return a
}

// scanned: behind a Scan.
func (b *watched) scanned(k int, a api.Answer) {
	left := b.racks[0].Waiting(k)
	if len(left) > 2*b.x.s.workers {
		b.t.Fatalf("P24.7: %+v: behind a Scan %v wait for worker %d", b.x, left, k)
	}
	switch {
	case len(left) == 0:
		b.scans["empty"]++
	case a.N == 0:
		b.scans["none went"]++
	default:
		b.scans["some went"]++
	}
}

// event: a call of a run that ended.
type event struct {
	worker, at int
	call       api.Call
	answer     api.Answer
}

// events in the order of their last lines.
func events(c api.Case, run api.Run) []event {
	var list []event
	for k, answers := range run.Answers {
		for i, a := range answers {
			list = append(list, event{k, a.End, c.Work[k][i], a})
		}
	}
	slices.SortFunc(list, func(a, b event) int { return a.at - b.at })
	return list
}

// check holds what a rack is for against a run.
func check(t *testing.T, x mixed, counts map[string]int) {
	t.Helper()
	b := &watched{real: newReal(t, x.s), t: t, x: x, nodes: map[int]api.Node{}, scans: counts}
	run, err := crew.Run(x.c, b)
	if err != api.OK {
		t.Fatalf("P24.6: %+v: %v", x, err)
	}
	if n := b.pools[0].Faults(); n != 0 {
		t.Fatalf("P24.6: %+v: %d faults", x, n)
	}
	list := events(x.c, run)
	checkReads(t, x, list, b.nodes, counts)
	checkLines(t, x, list, counts)
	if len(run.Open) == 0 {
		checkRest(t, x, b.real)
		counts["at rest"]++
	}
}

// checkReads: each answers the node that was laid down for what the last Protect answered.
func checkReads(t *testing.T, x mixed, list []event, nodes map[int]api.Node, counts map[string]int) {
	t.Helper()
	var named [8][2]int
	for _, e := range list {
		if e.worker >= x.s.workers || e.answer.Err == place || e.answer.Err == root {
			continue
		}
		mine := &named[e.worker]
		switch e.call.Kind {
		case 1:
			if e.answer.Err == api.OK || e.answer.Own > 1 {
				mine[e.call.A] = e.answer.N
			}
		case 3:
			mine[e.call.A] = 0
		case 2:
			h := mine[e.call.A]
			if h == 0 {
				if !sameAnswer(e.answer, failed(none)) {
					t.Fatalf("P24.6: %+v: a Read of nothing: %+v", x, e)
				}
				continue
			}
			counts["Reads"]++
			if n := nodes[h]; !sameAnswer(e.answer, node(n.A, n.B, n.C, n.D)) {
				t.Fatalf("P24.6: %+v: a Read of %d: %+v, want %+v", x, h, e, n)
			}
		}
	}
}

// checkLines: how often a Protect goes round, and how many lines each of the others has.
func checkLines(t *testing.T, x mixed, list []event, counts map[string]int) {
	t.Helper()
	for _, e := range list {
		lines := e.answer.Own
		want := lines == 1
		switch {
		case e.worker >= x.s.workers || e.answer.Err == place || e.answer.Err == root:
		case e.answer.Err == full:
			want = lines%3 == 1 // Take may go round ahead of that
		case e.call.Kind == 1 && lines > 1:
			rounds := (lines - 3) / 2 // a Protect that found 0 at last has one line more, and that 0 is a change too
			late := 0
			if e.answer.Err == none {
				rounds, late = (lines-4)/2, 1
			}
			want = lines == 3+2*rounds+late && rounds+late <= changes(x, list, e)
			counts["Protects that went round"] += rounds
		case e.call.Kind == 4 || e.call.Kind == 5 && e.answer.Ok:
			want = lines%3 == 1 && lines >= 4 // Take's three, again and again, and one
		case e.call.Kind == 5:
			want = lines >= 8
		case e.call.Kind == 7:
			want = lines >= 2*x.s.workers+4*e.answer.N && (e.answer.N > 0 || lines == 2*x.s.workers)
		}
		if !want {
			t.Fatalf("P24.8: %+v: %d lines: %+v", x, lines, e)
		}
	}
}

// changes: how often others changed the root of a Protect while it was at work.
func changes(x mixed, list []event, p event) int {
	n := 0
	for _, e := range list {
		at := e.call.A
		if e.call.Kind == 5 {
			at = e.call.B
		}
		changed := e.call.Kind == 4 || e.call.Kind == 5 && e.answer.Ok || e.call.Kind == 6
		if e.worker < x.s.workers && changed && e.answer.Err == api.OK && at == p.call.B && e.at > p.answer.Begin && e.at < p.answer.End {
			n++
		}
	}
	return n
}

// checkRest: nobody is in the midst of a call: each slot in use is a root's, or in just one list, once. Then all hazards are cleared, and the lists come back.
func checkRest(t *testing.T, x mixed, b real) {
	t.Helper()
	r := b.racks[0]
	var used, known []int
	for i, s := range b.pools[0].Slots() {
		if s.Gen%2 == 1 {
			used = append(used, word(i+1, s.Gen))
		}
	}
	roots := 0
	for _, h := range r.Roots() {
		if h != 0 {
			known = append(known, h)
			roots++
		}
	}
	for k := range x.s.workers {
		known = append(known, r.Waiting(k)...)
	}
	slices.Sort(known)
	if !slices.Equal(known, used) || len(b.pools[0].Free())+len(used) != x.s.slots {
		t.Fatalf("P24.9: %+v: in use %v, roots and lists %v", x, used, known)
	}
	c := api.Case{Work: make([][]api.Call, x.s.workers)}
	for k := range c.Work {
		c.Work[k] = []api.Call{clearOf(0), clearOf(1), scan()}
	}
	c.Turns = make([]int, 2*x.s.workers) // all clear, then each scans: nobody's turn comes a third time ahead of that
	for i := range c.Turns {
		c.Turns[i] = i / 2
	}
	run, _ := crew.Run(c, b)
	for k := range c.Work {
		if list := r.Waiting(k); len(list) != 0 || run.Answers[k][2].Err != api.OK {
			t.Fatalf("P24.7: %+v: no hazard holds anything, and behind a Scan %v wait", x, list)
		}
	}
	if free := len(b.pools[0].Free()); free != x.s.slots-roots {
		t.Fatalf("P24.9: %+v: %d slots are free, %d roots", x, free, roots)
	}
}

func TestUsesInMixedRuns(t *testing.T) {
	counts := map[string]int{}
	for seed, how := range []manners{{}, {stops: true}, {wild: true, stops: true}} {
		mixedRuns(30+seed, 5000, how, func(x mixed) { check(t, x, counts) })
	}
	for _, what := range []string{"Reads", "Protects that went round", "at rest", "empty", "none went", "some went"} {
		if counts[what] < 300 {
			t.Errorf("the cases are too plain: %d %s", counts[what], what)
		}
	}
}

// Small runs in many orders, halted at every line.
func TestUsesInEveryOrder(t *testing.T) {
	takesLong(t)
	counts := map[string]int{}
	for _, x := range everyOrders() {
		ahead := modelRun(by(0, x.ahead...), newModel(x.s).begin(true)).Steps
		c := api.Case{Work: slices.Clone(x.calls)}
		c.Work[0] = append(slices.Clone(x.ahead), c.Work[0]...)
		orders(len(x.calls), min(x.turns, 10), func(list []int) {
			c.Turns, c.Halt = append(make([]int, ahead), list...), nil
			check(t, mixed{x.s, c}, counts)
		})
		orders(len(x.calls), 5, func(list []int) {
			for halt := 1; halt <= 12; halt++ {
				c.Turns = append(make([]int, ahead), list...)
				for _, c.Halt = range [][]int{{ahead + halt}, {0, halt}, {0, 0, halt}, {ahead + halt, 1 + halt/2}} {
					check(t, mixed{x.s, c}, counts)
				}
			}
		})
	}
}

// Whoever is halted, wherever: what it names is held back, and no more; the others' slots come back, and they go on.
func TestWhoIsHaltedHoldsBackFew(t *testing.T) {
	for halt := 1; halt <= 9; halt++ {
		s := shape{slots: 8, workers: 3, roots: 1}
		var others []api.Call
		for n := range 20 {
			others = append(others, swap(0, n), scan())
		}
		c := work([]api.Call{swap(0, 70), swap(0, 71)}, []api.Call{protect(0, 0), protect(1, 0), read(0), read(1)}, others)
		c.Turns, c.Halt = turns(0, 4, 1, halt, 0, 4), []int{0, halt}
		run, left := wantNamed(t, "P24.7: a worker is halted", s, c)
		r := left.racks[0]
		if run.Cut || len(run.Answers[2]) != 40 || left.faults[0] != 0 || len(r.waits[2]) > 2 {
			t.Errorf("P24.7: a worker is halted behind %d lines: %+v, %+v", halt, run, left)
		}
		for _, a := range run.Answers[2] {
			if a.Err != api.OK {
				t.Errorf("P24.7: a worker is halted behind %d lines, and another one's call is refused: %+v", halt, a)
			}
		}
	}
}

// As many as can be wait behind a Scan: two of each worker.
func TestMostThatWait(t *testing.T) {
	for workers := 2; workers <= 8; workers++ {
		s := shape{slots: 2*workers + 4, workers: workers, roots: 16}
		c := api.Case{Work: make([][]api.Call, workers)}
		for at := range 2 * workers {
			c.Work[0] = append(c.Work[0], swap(at, at))
		}
		ahead := modelRun(by(0, c.Work[0]...), newModel(s).begin(true)).Steps
		for at := range 2 * workers {
			c.Work[at/2] = append(c.Work[at/2], protect(at%2, at))
		}
		for at := range 2 * workers {
			c.Work[0] = append(c.Work[0], drop(at))
		}
		c.Work[0] = append(c.Work[0], swap(0, 1), swap(0, 2), scan())
		c.Turns = turns(0, ahead+6, 1, 6*(workers-1), 0, 99)
		run, left := wantModel(t, "P24.7: the most that wait", s, c)
		if got := left.racks[0].waits[0]; len(got) != 2*workers || run.Answers[0][len(run.Answers[0])-1].N != 1 {
			t.Errorf("P24.7: of %d workers %v wait: %+v", workers, got, run)
		}
	}
}

// Two racks over one pool: neither touches what is the other one's; a hazard of the one is no name for the other one.
func TestTwoRacks(t *testing.T) {
	for pools := 1; pools <= 2; pools++ {
		s := shape{slots: 4, workers: 2, roots: 1, racks: 2, pools: pools}
		b := newReal(t, s)
		a, z := b.racks[0], b.racks[1]
		h, _ := a.Swap(nil, 0, api.Node{A: 1})
		a.Protect(nil, 0, 0)
		y, _ := z.Swap(nil, 0, api.Node{A: 2})
		z.Protect(nil, 1, 0)
		a.Drop(nil, 0)
		z.Drop(nil, 0)
		if !slices.Equal(a.Waiting(0), []int{h}) || !slices.Equal(z.Waiting(0), []int{y}) || !slices.Equal(a.Hazards(0), []int{h, 0}) || !slices.Equal(z.Hazards(0), []int{0, y}) {
			t.Errorf("P24.2: two racks: %+v", b.state())
		}
		if n, _ := a.Scan(nil); n != 0 {
			t.Errorf("P24.2: two racks: a Scan of what is named: %d", n)
		}
		z.Clear(nil, 1)
		if n, _ := z.Scan(nil); n != 1 {
			t.Errorf("P24.2: two racks: a Scan of what is named no more: %d", n)
		}
		x, err := a.Read(nil, 0)
		if x != (api.Node{A: 1}) || err != api.OK || b.pools[0].Faults() != 0 {
			t.Errorf("P24.2: two racks: Read %v, %v", x, err)
		}
		if pools == 1 != (h != y) {
			t.Errorf("P24.2: two racks over %d pools: %d, %d", pools, h, y)
		}
	}
}

func TestStorm(t *testing.T) {
	for _, workers := range []int{1, 2, 3, 8} {
		for _, roots := range []int{1, 2, 3, 7, 16} {
			for _, more := range []int{0, 1, 2, 9, 40, 4096 - roots} {
				for _, rounds := range []int{0, 1, 2, 64} {
					if free, faults, err := hazard.Storm(roots+more, workers, roots, rounds); free != more || faults != 0 || err != api.OK {
						t.Fatalf("P24.9: Storm(%d, %d, %d, %d): %d, %d, %v", roots+more, workers, roots, rounds, free, faults, err)
					}
				}
			}
		}
	}
}

func TestStormRefuses(t *testing.T) {
	refuses := func(slots, workers, roots, rounds int, want api.Errno) {
		t.Helper()
		if free, faults, err := hazard.Storm(slots, workers, roots, rounds); free != 0 || faults != 0 || err != want {
			t.Errorf("P24.5: Storm(%d, %d, %d, %d): %d, %d, %v, want %v", slots, workers, roots, rounds, free, faults, err, want)
		}
	}
	noRounds := []int{lowest, -64, -1, 65, 66, 1 << 32, 1<<32 + 1, highest}
	for _, slots := range noSizes {
		refuses(slots, 1, 1, 1, api.ErrPoolMany)
		refuses(slots, 0, 17, -1, api.ErrPoolMany)
	}
	for _, workers := range noWorkers {
		refuses(4, workers, 1, 1, api.ErrHazardMany)
		refuses(4, workers, 5, 65, api.ErrHazardMany)
	}
	for _, roots := range noRoots {
		refuses(40, 1, roots, 1, api.ErrHazardMany)
	}
	for slots := 1; slots < 16; slots++ {
		for roots := slots + 1; roots <= 16; roots++ {
			refuses(slots, 1, roots, 1, api.ErrHazardMany)
			refuses(slots, 8, roots, 0, api.ErrHazardMany)
		}
	}
	for _, rounds := range noRounds {
		refuses(4, 1, 1, rounds, api.ErrHazardMany)
		refuses(4, 8, 4, rounds, api.ErrHazardMany)
	}
}

func TestStormLeavesNothing(t *testing.T) {
	leavesNothing(t, "P24.5", func() {
		hazard.Storm(20, 8, 16, 64)
		hazard.Storm(0, 8, 1, 1)
		hazard.Storm(3, 8, 1, -1)
	})
}

// loose does f by so many workers, without turns; all have come when they begin.
func loose(t *testing.T, promise string, workers int, f func(w *crew.Worker) []int) {
	t.Helper()
	var come atomic.Int64
	c := api.Case{Work: slices.Repeat([][]api.Call{{{}}}, workers)}
	answers, err := crew.Loose(c, does(func(w *crew.Worker, _ api.Call) api.Answer {
		come.Add(1)
		for come.Load() < int64(workers) {
			runtime.Gosched()
		}
		return api.Answer{Ints: f(w)}
	}))
	if err != api.OK || len(answers) != workers {
		t.Fatalf("Loose: %v, %v", answers, err)
	}
	for k, list := range answers {
		if len(list) != 1 || list[0].Err != api.OK || len(list[0].Ints) > 0 {
			t.Fatalf("%s: worker %d finds %+v", promise, k, list)
		}
	}
}

// Without turns all calls go beside one another: what is read is what was laid down, there are no faults, and all comes back.
func TestLoose(t *testing.T) {
	const workers, rounds = 8, 1500
	for _, roots := range []int{1, 3} {
		for _, slots := range []int{roots, roots + 2, 40} {
			p, _ := pool.New(slots)
			r, _ := hazard.New(p, workers, roots)
			var laid, read [workers]map[int]api.Node
			loose(t, "P24.6", workers, func(w *crew.Worker) []int {
				k := w.Number()
				laid[k], read[k] = map[int]api.Node{}, map[int]api.Node{}
				m := mixer(k)
				for n := range rounds {
					i, root, x := m.below(2), m.below(roots), api.Node{A: k, B: n, C: -n, D: k * n}
					h, err := r.Protect(w, i, root)
					if err == api.OK {
						got, e := r.Read(w, i)
						if e != api.OK {
							return []int{n, h, int(e)}
						}
						read[k][h] = got
					}
					switch m.below(4) {
					case 0:
						if now, err := r.Swap(w, root, x); err == api.OK {
							laid[k][now] = x
						}
					case 1, 2:
						if now, ok, err := r.Put(w, i, root, x); ok && err == api.OK {
							laid[k][now] = x
						}
					case 3:
						r.Drop(w, root)
					}
					if m.below(3) == 0 {
						r.Clear(w, i)
					}
					if m.below(4) > 0 {
						continue
					}
					if _, err := r.Scan(w); err != api.OK || len(r.Waiting(k)) > 2*workers {
						return []int{n, int(err), len(r.Waiting(k))}
					}
				}
				return nil
			})
			all := map[int]api.Node{}
			for _, mine := range laid {
				for h, x := range mine {
					if _, there := all[h]; there {
						t.Fatalf("P24.6: the handle %d was laid down twice", h)
					}
					all[h] = x
				}
			}
			for k, mine := range read {
				for h, x := range mine {
					if want, there := all[h]; !there || want != x {
						t.Fatalf("P24.6: worker %d reads %v by %d, want %v", k, x, h, want)
					}
				}
			}
			if p.Faults() != 0 {
				t.Fatalf("P24.6: %d faults", p.Faults())
			}
			checkRest(t, mixed{s: shape{slots: slots, workers: workers, roots: roots}}, real{[]*pool.Pool{p}, []*hazard.Rack{r}})
		}
	}
}

// Of all who put over what they named one does it, and one alone takes it off.
func TestLooseOneTakesOff(t *testing.T) {
	for range 200 {
		p, _ := pool.New(20)
		r, _ := hazard.New(p, 8, 1)
		h, _ := r.Swap(nil, 0, api.Node{A: 9})
		var well atomic.Int64
		loose(t, "P24.2", 8, func(w *crew.Worker) []int {
			i := w.Number() % 2
			if i == 0 {
				r.Protect(w, 0, 0)
			}
			switch was, err := r.Protect(w, i, 0); {
			case err != api.OK || was == 0:
				return []int{was, int(err)}
			case was != h:
				return nil
			}
			if _, ok, err := r.Put(w, i, 0, api.Node{}); ok {
				well.Add(1)
			} else if err != api.OK {
				return []int{int(err)}
			}
			return nil
		})
		var waits []int
		for k := range 8 {
			waits = append(waits, r.Waiting(k)...)
		}
		if well.Load() != 1 || !slices.Equal(waits, []int{h}) || len(p.Free()) != 18 {
			t.Fatalf("P24.9: %d Puts went well, %v wait, %v are free", well.Load(), waits, p.Free())
		}
	}
}
