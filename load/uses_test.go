package load_test

import (
	"runtime"
	"slices"
	"sync/atomic"
	"testing"

	"skein/api"
	"skein/crew"
)

// loading: a call that came to load a part: who did it, the steps of its cas and of its last line (0: it is under way), and what it answered.
type loading struct {
	part, k  int
	cas, end int
	answer   api.Answer
	steps    int  // its worker's, behind the cas
	laid     bool // its version is there
}

// found: what was looked at, so that the cases aren't too plain.
type found struct{ loadings, well, failed, errors, busy, rounds, besides, open int }

func (f *found) add(o found) {
	f.loadings += o.loadings
	f.well += o.well
	f.failed += o.failed
	f.errors += o.errors
	f.busy += o.busy
	f.rounds += o.rounds
	f.besides += o.besides
	f.open += o.open
}

// check holds the four promises against a case of Play's calls, at each of its moments.
func check(t *testing.T, x mixed) found {
	t.Helper()
	f := wantFilm(t, "P15.6", x)
	var n found
	all := f.loadings(t, &n)
	f.checkAnswers(t, all, &n)
	f.checkBusy(t, all, &n)
	f.checkEnd(t, all)
	for step, s := range f.moments {
		if s.faults != 0 {
			t.Fatalf("P15.6: %+v: behind step %d there are %d faults", x, step, s.faults)
		}
	}
	n.open += len(f.run.Open)
	return n
}

// at: the answer of the call whose last line a step was.
func (f filmed) at(k, step int) (api.Answer, bool) {
	for _, a := range f.run.Answers[k] {
		if a.End == step {
			return a, true
		}
	}
	return api.Answer{}, false
}

// loadings goes by the states: whoever made one 1 loads that part, till it makes it another one.
func (f filmed) loadings(t *testing.T, n *found) []*loading {
	t.Helper()
	var all []*loading
	at := map[int]*loading{} // by part
	for i, p := range f.picks {
		was, is := f.moments[i], f.moments[i+1]
		for part, l := range at {
			if l.k == p.k {
				if l.steps++; l.laid && is.states[part] != 2 {
					t.Fatalf("P15.6: %+v: behind step %d there is a version of part %d, and no state 2: %+v", f.mixed, i+1, part, is)
				}
				l.laid = len(is.versions[part]) == 1
			}
		}
		for part := range is.states {
			switch change := [2]int{was.states[part], is.states[part]}; change {
			case [2]int{0, 0}, [2]int{1, 1}, [2]int{2, 2}:
			case [2]int{0, 1}:
				at[part] = &loading{part: part, k: p.k, cas: i + 1}
				all = append(all, at[part])
				n.besides += len(at) - 1
			case [2]int{1, 0}, [2]int{1, 2}:
				l := at[part]
				a, ok := f.at(p.k, i+1)
				if l == nil || l.k != p.k || !ok || (a.Err == api.OK) != (is.states[part] == 2) {
					t.Fatalf("P15.6: %+v: step %d ends a loading of part %d that isn't its own: %+v", f.mixed, i+1, part, a)
				}
				l.end, l.answer = i+1, a
				delete(at, part)
			default:
				t.Fatalf("P15.6: %+v: step %d: the state of part %d goes from %d to %d", f.mixed, i+1, part, change[0], change[1])
			}
			f.checkVersion(t, i+1, part, at[part])
		}
	}
	return all
}

// checkVersion: a part's chain has a version just if its state is 2, or who loads it is about to store that.
func (f filmed) checkVersion(t *testing.T, step, part int, l *loading) {
	t.Helper()
	is := f.moments[step]
	has := len(is.versions[part])
	if has > 1 || (has == 1) != (is.states[part] == 2 || l != nil && l.laid) {
		t.Fatalf("P15.6: %+v: behind step %d: %+v", f.mixed, step, is)
	}
}

// checkAnswers: what loadings answer, in their order.
func (f filmed) checkAnswers(t *testing.T, all []*loading, n *found) {
	t.Helper()
	begun, well := map[int]int{}, map[int]int{}
	for _, l := range all {
		n.loadings++
		fails := begun[l.part] < f.s.Fails
		begun[l.part]++
		if l.end == 0 {
			continue
		}
		switch a := l.answer; {
		case fails != (a.Err == api.ErrLoadFailed) || fails && l.steps != 1:
			t.Fatalf("P15.7: %+v: the loading %d of part %d: %+v", f.mixed, begun[l.part], l.part, a)
		case fails:
			n.failed++
		case a.Err == api.OK:
			n.well++
			well[l.part]++
		case a.Err == full:
			n.errors++
		default:
			t.Fatalf("P15.7: %+v: %+v", f.mixed, a)
		}
		if well[l.part] > 1 {
			t.Fatalf("P15.6: %+v: part %d was loaded twice", f.mixed, l.part)
		}
		rounds := l.answer.Own - l.steps
		if rounds < 2 || rounds == 2 && l.answer.Begin == l.cas {
			t.Fatalf("P15.7: %+v: %d lines behind the cas, %+v", f.mixed, l.steps, l.answer)
		}
		if rounds > 2 {
			n.rounds++
		}
		between := func(o *loading) bool {
			return o.part == l.part && o.cas < l.cas && (o.end == 0 || o.end > l.answer.Begin)
		}
		if rounds > 2 && !slices.ContainsFunc(all, between) {
			t.Fatalf("P15.7: %+v: nobody came between, and it went round: %+v", f.mixed, l.answer)
		}
	}
	for i, l := range all {
		for _, o := range all[i+1:] {
			if o.part == l.part && (l.end == 0 || o.cas <= l.end) {
				t.Fatalf("P15.6: %+v: loadings of part %d overlap: %+v, %+v", f.mixed, l.part, *l, *o)
			}
		}
	}
}

// checkBusy: who is told that it is busy is so told while another one has done its line 2, and no more.
func (f filmed) checkBusy(t *testing.T, all []*loading, n *found) {
	t.Helper()
	for k, answers := range f.run.Answers {
		for i, a := range answers {
			call := f.c.Work[k][i]
			if a.Err != busy {
				continue
			}
			n.busy++
			is := slices.ContainsFunc(all, func(l *loading) bool {
				return l.part == call.A && l.k != k && l.cas < a.End && (l.end == 0 || l.end > a.End)
			})
			if call.Kind != 1 || !is {
				t.Fatalf("P15.7: %+v: %+v: %+v", f.mixed, call, a)
			}
		}
	}
}

// checkEnd: what is in use behind it, and what parts hold that are there.
func (f filmed) checkEnd(t *testing.T, all []*loading) {
	t.Helper()
	last := f.moments[len(f.moments)-1]
	used := 0
	for part, is := range last.states {
		if is == 2 {
			used += slotsFor(len(holds(pairsOf(f.s.Source, part, f.s.Parts))))
		}
	}
	if len(f.run.Open) == 0 && (last.used() != used || len(last.free) != f.s.Slots-used) {
		t.Fatalf("P15.8: %+v: %d slots are in use, want %d: %+v", f.mixed, last.used(), used, last)
	}
	for k, answers := range f.run.Answers {
		for i, a := range answers {
			if call := f.c.Work[k][i]; call.Kind == 4 && a.Ok && !sameAnswer(a, firstOf(holds(pairsOf(f.s.Source, call.A, f.s.Parts)))) {
				t.Fatalf("P15.9: %+v: %+v: %+v", f.mixed, call, a)
			}
		}
	}
	r := newReal(t, f.s)
	if _, err := crew.Run(f.c, r); err != api.OK {
		t.Fatalf("%+v: %v", f.mixed, err)
	}
	for part, is := range last.states {
		if a := r.tell(nil, part); is == 2 && !sameAnswer(a, firstOf(holds(pairsOf(f.s.Source, part, f.s.Parts)))) {
			t.Fatalf("P15.9: %+v: part %d: %+v", f.mixed, part, a)
		}
	}
}

func TestPromisesOfMixedPlays(t *testing.T) {
	var all found
	mixedPlays(700, manners{}, func(x mixed) { all.add(check(t, x)) })
	if all.well < 300 || all.failed < 200 || all.errors < 200 || all.busy < 50 || all.rounds < 10 || all.besides < 100 || all.open < 100 {
		t.Errorf("the cases are too plain: %+v", all)
	}
}

// busyCase: a case in which all come to few parts at once.
func (m *mixer) busyCase() mixed {
	n := 1 + m.below(3)
	x := mixed{s: failing(parts(n, m.one([]int{6, 9, 12, 30})), m.below(4))}
	for range 2 + m.below(6) {
		x.s.Source = append(x.s.Source, api.Pair{Key: least(m.below(n), n) + m.below(4), Value: m.below(3)})
	}
	for range 2 + m.below(4) {
		var calls []api.Call
		for range 6 {
			calls = append(calls, api.Call{Kind: m.one([]int{1, 1, 1, 2, 2, 3, 4}), A: m.below(n)})
		}
		x.c.Work = append(x.c.Work, calls)
	}
	for range 200 {
		x.c.Turns = append(x.c.Turns, m.below(6))
	}
	x.c.Until = 900
	return x
}

func TestPromisesOfBusyCases(t *testing.T) {
	var all found
	m := mixer(2)
	for range 300 {
		all.add(check(t, m.busyCase()))
	}
	if all.well < 300 || all.failed < 300 || all.errors < 50 || all.busy < 300 || all.rounds < 50 || all.besides < 300 {
		t.Errorf("the cases are too plain: %+v", all)
	}
}

// everyOrder holds the promises against every order of the first turns of a case, the others come round and round.
func everyOrder(t *testing.T, turns int, x mixed, n *found) {
	t.Helper()
	orders(len(x.c.Work), turns, func(list []int) {
		x.c.Turns = slices.Clone(list)
		n.add(check(t, x))
	})
}

// Every order of two who come to one part, and of three, where their lines are few.
func TestPromisesInEveryOrder(t *testing.T) {
	var all found
	empty := parts(1, 3)
	for _, calls := range [][2]api.Call{{ready(0), ready(0)}, {ready(0), wait(0)}, {wait(0), wait(0)}} {
		for _, s := range []api.Setup{empty, failing(empty, 1), failing(empty, 2), failing(empty, 9)} {
			everyOrder(t, 8, mixed{s, work([]api.Call{calls[0], ask(0)}, []api.Call{calls[1], calls[1]})}, &all)
		}
	}
	for _, s := range []api.Setup{failing(empty, 9), failing(empty, 1)} {
		everyOrder(t, 6, mixed{s, work([]api.Call{ready(0)}, []api.Call{wait(0)}, []api.Call{ready(0), ask(0)})}, &all)
	}
	if all.well < 500 || all.failed < 2000 || all.busy < 500 || all.rounds < 100 {
		t.Errorf("the orders are too plain: %+v", all)
	}
}

// Every order of two whole loadings, of a pair each, of one part and of two.
func TestEveryOrder(t *testing.T) {
	one := parts(1, 3, 5, 50)
	two := parts(2, 4, 5, 50, mostKey, 9)
	for _, x := range []mixed{
		{one, work([]api.Call{ready(0)}, []api.Call{ready(0)})},
		{one, work([]api.Call{ready(0)}, []api.Call{wait(0)})},
		{one, work([]api.Call{ready(0)}, []api.Call{ask(0), tell(0)})},
		{failing(one, 1), work([]api.Call{wait(0)}, []api.Call{ready(0), ready(0)})},
		{parts(1, 1, 5, 50), work([]api.Call{wait(0)}, []api.Call{ready(0), wait(0)})},
		{two, work([]api.Call{ready(0)}, []api.Call{ready(1)})},
		{failing(two, 1), work([]api.Call{ready(0), ready(0)}, []api.Call{wait(1), wait(1)})},
		{parts(2, 3, 5, 50, mostKey, 9), work([]api.Call{ready(0)}, []api.Call{ready(1)})},
	} {
		orders(2, 11, func(turns []int) {
			x.c.Turns = turns
			run, left := wantModel(t, "every order", x)
			if run.Cut || left.faults != 0 || len(run.Open) != 0 {
				t.Fatalf("every order: %+v: %+v", x, run)
			}
		})
	}
}

// Loadings of unlike parts go side by side: each does as many lines as it would alone, or goes round in the pool's pile.
func TestUnlikePartsSideBySide(t *testing.T) {
	s := parts(2, 20, 5, 50, 7, 70, 5, 51, mostKey, 9, mostKey-2, 8, mostKey, 10)
	for at := range exampleOwn + 1 {
		x := mixed{s, work([]api.Call{ready(0), tell(0)}, []api.Call{wait(1), tell(1)})}
		x.c.Turns = append(make([]int, at), slices.Repeat([]int{1}, exampleOwn)...)
		f := wantFilm(t, "P15.6: side by side", x)
		a, b := f.run.Answers[0], f.run.Answers[1]
		if !a[0].Ok || !b[0].Ok || b[0].Own != exampleOwn || !sameAnswer(a[1], first1(5, 51, 7, 70)) || !sameAnswer(b[1], first1(mostKey-2, 8, mostKey, 10)) {
			t.Errorf("P15.6: side by side, broken off behind %d lines: %+v", at, f.run)
		}
		check(t, x)
	}
	var all found
	m := mixer(7)
	for range 25 {
		x := mixed{parts(8, 60, 5, 50), work()}
		for k := range 7 {
			x.s.Source = append(x.s.Source, pairs(least(k, 8)+1, k, least(k, 8)+2, k, least(k, 8)+1, -k)...)
			x.c.Work = append(x.c.Work, []api.Call{[]api.Call{ready(k), wait(k)}[k%2], tell(k)})
		}
		for range 300 {
			x.c.Turns = append(x.c.Turns, m.below(7))
		}
		all.add(check(t, x))
	}
	if all.well != 7*25 || all.besides < 7*25 {
		t.Errorf("P15.6: side by side: %+v", all)
	}
}

// Whoever is halted in the midst of a loading, wherever: the promises hold.
func TestPromisesBehindHalts(t *testing.T) {
	var all found
	for _, s := range []api.Setup{example(9), example(4), failing(example(9), 1), parts(1, 3, 5, 50, 7, 70)} {
		for halt := 1; halt <= exampleOwn; halt++ {
			for _, call := range []api.Call{ready(0), wait(0)} {
				x := mixed{s, work([]api.Call{call, call}, []api.Call{ready(0), ask(0), ready(0), tell(0)})}
				x.c.Turns, x.c.Halt, x.c.Until = make([]int, halt), []int{halt}, 200
				all.add(check(t, x))
			}
		}
	}
	if all.busy < 100 || all.open < 100 || all.errors < 20 || all.well < 5 {
		t.Errorf("the cases are too plain: %+v", all)
	}
}

// loose does f by so many workers, without turns; all have come when they begin.
func loose(t *testing.T, promise string, workers int, f func(w *crew.Worker) []int) {
	t.Helper()
	var come atomic.Int64
	c := api.Case{Work: slices.Repeat([][]api.Call{{{}}}, workers)}
	answers, err := crew.Loose(c, does(func(w *crew.Worker, _ api.Call) api.Answer {
		come.Add(1)
		for come.Load() < int64(workers) {
			runtime.Gosched()
		}
		return api.Answer{Ints: f(w)}
	}))
	if err != api.OK || len(answers) != workers {
		t.Fatalf("Loose: %v, %v", answers, err)
	}
	for k, list := range answers {
		if len(list) != 1 || list[0].Err != api.OK || len(list[0].Ints) > 0 {
			t.Fatalf("%s: worker %d finds %+v", promise, k, list)
		}
	}
}

// looseSetup: some keys a part, each of them twice.
func looseSetup(n, fails int) api.Setup {
	s := failing(parts(n, 300), fails)
	for i := range 2 * n {
		key := least(i%n, n)
		s.Source = append(s.Source, pairs(key, i, key+5, -i, key+9, i*i)...)
	}
	return s
}

// Without turns, too, each part is loaded once, and as many loadings of it fail as must, whoever comes and how.
func TestLooseLoadings(t *testing.T) {
	for round := range 120 {
		n, must := 1+round%5, round%4
		s := looseSetup(n, must)
		r := newReal(t, s)
		failedOf := make([]atomic.Int64, n)
		loose(t, "P15.7", 8, func(w *crew.Worker) []int {
			for i := range n {
				part := (i + w.Number()) % n
				for {
					call := r.x.Ready
					if w.Number()%2 == 1 {
						call = r.x.Wait
					}
					err := call(w, part)
					if err == api.OK {
						break
					}
					if err == fails {
						failedOf[part].Add(1)
					} else if err != busy || w.Number()%2 == 1 {
						return []int{part, int(err)}
					}
				}
				// From now on it is there for good.
				is, err := r.x.State(w, part)
				again, late := r.x.Ready(w, part), r.x.Wait(w, part)
				if is != 2 || err != api.OK || again != api.OK || late != api.OK {
					return []int{part, is, int(err), int(again), int(late)}
				}
				if a := r.tell(w, part); !sameAnswer(a, firstOf(holds(pairsOf(s.Source, part, n)))) {
					return []int{part, a.N, int(a.Err), len(a.Pairs)}
				}
			}
			return nil
		})
		for part := range n {
			if got := int(failedOf[part].Load()); got != must {
				t.Fatalf("P15.7: of part %d %d loadings failed, want %d", part, got, must)
			}
			if len(r.chains[part].Versions()) != 1 {
				t.Fatalf("P15.6: part %d: %v", part, r.chains[part].Versions())
			}
		}
		r.wantHolds(t, "P15.8: without turns", s)
	}
}

// Without turns, too, a loading without room leaves nothing behind, and whoever comes next may find some.
func TestLooseLoadingsWithoutRoom(t *testing.T) {
	const n = 4
	for round := range 120 {
		s := looseSetup(n, round%2)
		s.Slots = 9 + round%20
		r := newReal(t, s)
		var busies atomic.Int64
		loose(t, "P15.8", 8, func(w *crew.Worker) []int {
			for i := range 40 {
				part := (i + w.Number()) % n
				switch err := r.x.Ready(w, part); err {
				case busy:
					busies.Add(1)
				case api.OK, fails, full:
				default:
					return []int{part, int(err)}
				}
				if is, err := r.x.State(w, part); is < 0 || is > 2 || err != api.OK {
					return []int{part, is, int(err)}
				}
			}
			return nil
		})
		used := 0
		for part, is := range r.x.States() {
			switch is {
			case 0:
				if len(r.chains[part].Versions()) != 0 {
					t.Fatalf("P15.6: part %d: %v", part, r.chains[part].Versions())
				}
			case 2:
				want := holds(pairsOf(s.Source, part, n))
				used += slotsFor(len(want))
				if a := r.tell(nil, part); !sameAnswer(a, firstOf(want)) {
					t.Fatalf("P15.9: part %d: %+v", part, a)
				}
			default:
				t.Fatalf("P15.6: part %d is being loaded, and nobody does", part)
			}
		}
		if got := r.state(); got.used() != used || len(got.free) != s.Slots-used || got.faults != 0 {
			t.Fatalf("P15.8: %d slots in use, want %d: %+v", got.used(), used, got)
		}
	}
}

// Without turns, too, Waits all end when one of them has loaded the part.
func TestLooseWaits(t *testing.T) {
	for range 100 {
		s := looseSetup(1, 0)
		r := newReal(t, s)
		loose(t, "P15.2", 8, func(w *crew.Worker) []int {
			last := 0
			for last < 2 && w.Number() < 2 { // two look while the others load: states go up, as none fails
				is, err := r.x.State(w, 0)
				if is < last || err != api.OK {
					return []int{last, is, int(err)}
				}
				last = is
				runtime.Gosched()
			}
			if err := r.x.Wait(w, 0); err != api.OK {
				return []int{int(err)}
			}
			return nil
		})
		r.wantHolds(t, "P15.6", s)
	}
}

// Calls that can't be, beside others, in goroutines: each is told so, and nobody falls.
func TestLooseWildCalls(t *testing.T) {
	s := looseSetup(3, highest)
	r := newReal(t, s)
	loose(t, "rule 1", 8, func(w *crew.Worker) []int {
		m := mixer(w.Number())
		for range 2000 {
			c := m.call(s, manners{wild: true})
			if c.Kind == 2 || c.Kind == 4 {
				c.Kind = 1
			}
			a := r.Do(w, c)
			isPart := c.A >= 0 && c.A < 3
			switch {
			case c.Kind == 1 && isPart && (a.Err == fails || a.Err == busy):
			case c.Kind == 3 && isPart && a.Ok && (a.N == 0 || a.N == 1):
			case (c.Kind == 1 || c.Kind == 3) && !isPart && a.Err == noPart:
			case c.Kind != 1 && c.Kind != 3 && a.Err == noCall:
			default:
				return []int{c.Kind, c.A, a.N, int(a.Err)}
			}
		}
		return nil
	})
	r.wantState(t, "P15.8", newState(3, s.Slots))
}
