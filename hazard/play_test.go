package hazard_test

import (
	"runtime"
	"slices"
	"testing"
	"time"

	"skein/api"
	"skein/hazard"
)

func TestPlayRefuses(t *testing.T) {
	good := work([]api.Call{scan()})
	refuses := func(slots, workers, roots int, c api.Case, want api.Errno) {
		t.Helper()
		run, rows, err := hazard.Play(slots, workers, roots, c)
		if err != want || !sameRun(run, api.Run{}) || len(rows) != 0 {
			t.Errorf("P24.4: Play(%d, %d, %d, %+v): %+v, %v, %v, want %v", slots, workers, roots, c, run, rows, err, want)
		}
	}
	cases := []api.Case{
		{}, {Work: make([][]api.Call, 9)}, work(nil, make([]api.Call, 65)),
		{Work: good.Work, Until: -1}, {Work: good.Work, Until: lowest}, {Work: good.Work, Until: api.MaxSteps + 1}, {Work: good.Work, Until: highest},
	}
	for _, c := range append(cases, good) {
		for _, slots := range noSizes {
			refuses(slots, 1, 1, c, api.ErrPoolMany)
			refuses(slots, 0, 1, c, api.ErrPoolMany)
			refuses(slots, 1, 17, c, api.ErrPoolMany)
		}
		for _, workers := range noWorkers {
			refuses(1, workers, 1, c, api.ErrHazardMany)
			refuses(4096, workers, 16, c, api.ErrHazardMany)
		}
		for _, roots := range noRoots {
			refuses(1, 1, roots, c, api.ErrHazardMany)
			refuses(4096, 8, roots, c, api.ErrHazardMany)
		}
	}
	for _, c := range cases {
		refuses(1, 1, 1, c, api.ErrCrewCase)
		refuses(4096, 8, 16, c, api.ErrCrewCase)
	}
}

// The rows are those of the rack, however many workers the case has; a pool may have fewer slots than there are roots.
func TestIdlePlay(t *testing.T) {
	for _, slots := range []int{1, 2, 4095, 4096} {
		for workers := 1; workers <= 8; workers++ {
			for _, roots := range []int{1, 2, 15, 16} {
				rows := slices.Concat([][]int{{slots, 0}, make([]int, roots)}, slices.Repeat([][]int{{0, 0}}, workers), make([][]int, workers))
				wantPlay(t, "P24.4: no calls", shape{slots: slots, workers: workers, roots: roots}, work(nil, nil), api.Run{Answers: [][]api.Answer{nil, nil}}, rows)
			}
		}
	}
}

// Each Kind: its lines, its answer's fields, where it goes well and where it doesn't; the rows behind it.
func TestPlaysCalls(t *testing.T) {
	c := work([]api.Call{
		protect(1, 1), read(0), clearOf(1), drop(1), scan(),
		{Kind: 4, A: 1, B: 5, C: 6}, protect(1, 1), read(1), {Kind: 5, A: 1, B: 1, C: 7}, {Kind: 5, A: 1, B: 1, C: 8}, read(1), protect(0, 1), read(0),
		swap(0, 9), swap(0, 9), put(0, 0, 9), scan(), clearOf(1), scan(), drop(1), read(0), {Kind: 8}, read(2), drop(2), swap(2, 0), protect(-1, 2), put(0, -1, 0),
	})
	h := []int{0, first(1), first(2), word(3, 3), word(1, 3)}
	wantPlay(t, "P24.4", shape{slots: 3, workers: 2, roots: 2}, c, steps(0,
		own(1, failed(none)), own(1, failed(none)), own(1, api.Answer{}), own(1, failed(none)), own(4, number(0)),
		own(4, number(h[1])), own(3, number(h[1])), own(1, node(5, 6, 0, 0)), own(4, laid(h[2])), own(8, api.Answer{}), own(1, node(5, 6, 0, 0)), own(3, number(h[2])), own(1, node(7, 0, 0, 0)),
		own(4, number(h[3])), own(1, failed(full)), own(1, failed(full)), own(4, number(0)), own(1, api.Answer{}), own(8, number(1)), own(1, number(h[2])), own(1, node(7, 0, 0, 0)),
		own(1, failed(api.ErrHazardCall)), own(1, failed(place)), own(1, failed(root)), own(1, failed(root)), own(1, failed(place)), own(1, failed(root)),
	), [][]int{{1, 0}, {h[3], 0}, {h[2], 0}, {0, 0}, {h[2]}, nil})
}

// Whoever is no worker of it is refused by one line, whatever it calls, but a call that isn't there.
func TestPlayOfNoWorkers(t *testing.T) {
	calls := []api.Call{protect(0, 0), protect(9, 9), read(0), read(9), clearOf(0), clearOf(-1), swap(0, 1), swap(9, 1), put(0, 0, 1), put(9, 9, 1), drop(0), drop(9), scan(), {Kind: 8}, {Kind: 0}}
	for workers := 1; workers < 8; workers++ {
		for k := workers; k < 8; k++ {
			c := by(k, calls...)
			c.Work[0] = []api.Call{swap(0, 1)}
			c.Turns = make([]int, 4)
			run, left := wantModel(t, "P24.2: no worker of it", shape{slots: 1, workers: workers, roots: 1}, c)
			for i, a := range run.Answers[k] {
				want := failed(noone)
				if i >= len(calls)-2 {
					want = failed(api.ErrHazardCall)
				}
				if !sameAnswer(a, want) || a.Own != 1 {
					t.Errorf("P24.2: worker %d of %d: %+v: %+v", k, workers, calls[i], a)
				}
			}
			if left.racks[0].roots[0] != first(1) {
				t.Errorf("P24.2: worker %d of %d changes %+v", k, workers, left)
			}
		}
	}
}

func TestKindsThatCantBe(t *testing.T) {
	for _, kind := range []int{lowest, -7, -1, 0, 8, 9, 11, 17, 101, 102, 1<<32 + 1, 1<<40 + 4, highest} {
		for _, a := range []int{lowest, -1, 0, 1, first(1), highest} {
			call := api.Call{Kind: kind, A: a, B: a, C: 2, Pairs: []api.Pair{{Key: 1, Value: 2}}}
			wantPlay(t, "P24.4: a Kind that can't be", shape{slots: 2, workers: 1, roots: 1}, by(0, swap(0, 1), call, drop(0)), steps(0,
				own(4, number(first(1))), own(1, failed(api.ErrHazardCall)), own(1, number(first(1))),
			), [][]int{{1, 0}, {0}, {0, 0}, {first(1)}})
		}
	}
}

// What a call has no use for isn't looked at, nor answered.
func TestFieldsWithoutUse(t *testing.T) {
	for _, n := range []int{lowest, -1, 0, 1, 5, highest} {
		pairs := []api.Pair{{Key: n, Value: n}}
		calls := []api.Call{
			{Kind: 4, A: 0, B: 3, C: 4, Pairs: pairs}, {Kind: 1, A: 0, B: 0, C: n, Pairs: pairs}, {Kind: 2, A: 0, B: n, C: n, Pairs: pairs}, {Kind: 5, A: 0, B: 0, C: 6, Pairs: pairs},
			{Kind: 3, A: 0, B: n, C: n, Pairs: pairs}, {Kind: 6, A: 0, B: n, C: n, Pairs: pairs}, {Kind: 7, A: n, B: n, C: n, Pairs: pairs},
		}
		wantPlay(t, "P24.4: fields", shape{slots: 2, workers: 1, roots: 1}, by(0, calls...), steps(0,
			own(4, number(first(1))), own(3, number(first(1))), own(1, node(3, 4, 0, 0)), own(4, laid(first(2))), own(1, api.Answer{}), own(1, number(first(2))), own(10, number(2)),
		), [][]int{{2, 0}, {0}, {0, 0}, nil})
	}
}

// A node's numbers may be any.
func TestNodesAreAsTheyWereGiven(t *testing.T) {
	for _, a := range farNumbers {
		for _, b := range farNumbers {
			c := by(0, api.Call{Kind: 4, A: 0, B: a, C: b}, protect(0, 0), read(0), api.Call{Kind: 5, A: 0, B: 0, C: b}, protect(0, 0), read(0))
			run, _ := wantModel(t, "P24.4: nodes", shape{slots: 2, workers: 1, roots: 1}, c)
			if x, y := run.Answers[0][2].Ints, run.Answers[0][5].Ints; !slices.Equal(x, []int{a, b, 0, 0}) || !slices.Equal(y, []int{b, 0, 0, 0}) {
				t.Errorf("P24.4: nodes: %v, %v", x, y)
			}
		}
	}
}

func TestGreatestCase(t *testing.T) {
	for _, slots := range []int{16, 100, api.MaxSlots} {
		r := mixer(slots)
		s := shape{slots: slots, workers: 8, roots: 16}
		c := api.Case{Turns: []int{5, 3, 3, -1}}
		for range api.MaxWorkers {
			var calls []api.Call
			for range api.MaxCalls {
				calls = append(calls, r.call(s, manners{wild: true}))
			}
			c.Work = append(c.Work, calls)
		}
		if run, left := wantModel(t, "P24.4: the greatest case", s, c); run.Cut || left.faults[0] != 0 {
			t.Error("P24.4: the greatest case is cut, or has faults")
		}
	}
}

func TestAgainstModel(t *testing.T) {
	counts := map[string]int{}
	errs := map[api.Errno]int{}
	for seed, how := range []manners{{}, {wild: true}, {wild: true, stops: true}} {
		mixedRuns(seed, 4000, how, func(x mixed) {
			run, left := wantModel(t, "P24.4", x.s, x.c)
			if left.faults[0] != 0 {
				t.Fatalf("P24.6: %+v: %+v", x, left)
			}
			for k, answers := range run.Answers {
				for i, a := range answers {
					errs[a.Err]++
					count(counts, x, x.c.Work[k][i].Kind, a)
				}
			}
			counts["open"] += len(run.Open)
			if run.Cut {
				counts["cut"]++
			}
		})
	}
	for _, err := range []api.Errno{api.OK, api.ErrHazardCall, noone, place, root, none, full} {
		if errs[err] < 100 {
			t.Errorf("the cases are too plain: %v comes %d times", err, errs[err])
		}
	}
	for _, what := range []string{
		"Protects that went round", "Protects that went round twice", "Protects that came late", "Puts that fail", "Puts", "Scans of several", "Scans that went round", "open", "cut",
	} {
		if counts[what] < 20 {
			t.Errorf("the cases are too plain: %d %s", counts[what], what)
		}
	}
}

func count(counts map[string]int, x mixed, kind int, a api.Answer) {
	if kind == 1 && a.Own > 3 {
		counts["Protects that went round"]++
	}
	if kind == 1 && a.Own > 6 {
		counts["Protects that went round twice"]++
	}
	if kind == 1 && a.Own > 1 && a.Err != api.OK {
		counts["Protects that came late"]++
	}
	if kind == 5 && a.Ok {
		counts["Puts"]++
	}
	if kind == 5 && !a.Ok && a.Err == api.OK {
		counts["Puts that fail"]++
	}
	if kind == 7 && a.N > 1 {
		counts["Scans of several"]++
	}
	if kind == 7 && a.Own > 2*x.s.workers+4*a.N {
		counts["Scans that went round"]++
	}
}

// Calls by their names, with pool calls by hand among them, and over two racks side by side.
func TestNamedAgainstModel(t *testing.T) {
	counts := map[string]int{}
	for seed, how := range []manners{{hands: true}, {hands: true, wild: true, stops: true}, {both: true}, {both: true, stops: true}} {
		mixedRuns(70+seed, 2500, how, func(x mixed) {
			run, left := wantNamed(t, "P24.2", x.s, x.c)
			for _, a := range slices.Concat(run.Answers...) {
				if a.Err == api.ErrPoolGone {
					counts["slots that were given back by hand"]++
				}
			}
			if faults := left.faults[0]; how.hands {
				counts["faults"] += faults
			} else if faults != 0 || len(left.faults) > 1 && left.faults[1] != 0 {
				t.Fatalf("P24.6: two racks: %+v: %+v", x, left)
			}
		})
	}
	for _, what := range []string{"slots that were given back by hand", "faults"} {
		if counts[what] < 50 {
			t.Errorf("the cases are too plain: %d %s", counts[what], what)
		}
	}
}

// Every order of the lines of few calls, of two workers and of three.
func TestEveryOrder(t *testing.T) {
	takesLong(t)
	for _, x := range everyOrders() {
		ahead := modelRun(by(0, x.ahead...), newModel(x.s).begin(true)).Steps
		orders(len(x.calls), x.turns, func(list []int) {
			c := api.Case{Work: slices.Clone(x.calls), Turns: append(make([]int, ahead), list...)}
			c.Work[0] = append(slices.Clone(x.ahead), c.Work[0]...)
			if _, left := wantModel(t, "every order", x.s, c); left.faults[0] != 0 {
				t.Fatalf("P24.6: %+v: %+v", c, left)
			}
		})
	}
}

// order: calls behind others of worker 0; so many turns come in every order.
type order struct {
	s     shape
	ahead []api.Call
	calls [][]api.Call
	turns int
}

func everyOrders() []order {
	two, three := shape{slots: 3, workers: 2, roots: 1}, shape{slots: 3, workers: 3, roots: 1}
	one := []api.Call{swap(0, 1)}
	held := []api.Call{swap(0, 1), protect(0, 0), swap(0, 2)}
	return []order{
		{two, one, [][]api.Call{{swap(0, 2), scan()}, {protect(0, 0), read(0), clearOf(0)}}, 12},
		{two, one, [][]api.Call{{drop(0), scan(), swap(0, 2)}, {protect(0, 0), read(0)}}, 11},
		{two, one, [][]api.Call{{drop(0), drop(0), scan()}, {protect(0, 0), read(0), put(0, 0, 3)}}, 10},
		{two, held, [][]api.Call{{clearOf(0), scan()}, {protect(0, 0), put(0, 0, 3)}}, 11},
		{two, one, [][]api.Call{{protect(0, 0), put(0, 0, 2)}, {protect(0, 0), put(0, 0, 3)}}, 11},
		{two, held, [][]api.Call{{clearOf(0), scan()}, {drop(0), scan()}}, 11},
		{three, one, [][]api.Call{{drop(0), scan()}, {protect(0, 0), read(0)}, {protect(1, 0), read(1)}}, 8},
		{three, one, [][]api.Call{{swap(0, 2), scan()}, {protect(0, 0), read(0)}, {drop(0)}}, 8},
	}
}

func TestSameEachTime(t *testing.T) {
	mixedRuns(5, 300, manners{wild: true, stops: true}, func(x mixed) {
		run, rows, err := hazard.Play(x.s.slots, x.s.workers, x.s.roots, x.c)
		for range 5 {
			again, then, e := hazard.Play(x.s.slots, x.s.workers, x.s.roots, x.c)
			if !sameRun(run, again) || !sameLists(rows, then) || e != err {
				t.Fatalf("P24.4: %+v\nonce %+v %v %v\nthen %+v %v %v", x, run, rows, err, again, then, e)
			}
		}
	})
}

// roomy copies a list into one with spare room, in which something stands.
func roomy(list []int) []int {
	room := append(slices.Clone(list), 71, 72, 73)
	return room[:len(list)]
}

// untouched tells whether a roomy list is as it was.
func untouched(list, was []int) bool {
	return slices.Equal(list, was) && slices.Equal(list[:len(list)+3][len(list):], []int{71, 72, 73})
}

func TestPlayKeepsToItsOwnMemory(t *testing.T) {
	mixedRuns(6, 600, manners{wild: true}, func(x mixed) {
		c := plainCase(x.c)
		c.Turns, c.Halt = roomy(c.Turns), roomy(c.Halt)
		run, rows, _ := hazard.Play(x.s.slots, x.s.workers, x.s.roots, c)
		if !untouched(c.Turns, x.c.Turns) || !untouched(c.Halt, x.c.Halt) {
			t.Fatalf("rule 3: Play changed what was handed in: %+v", c)
		}
		for k := range c.Work {
			for i, call := range c.Work[k] {
				if was := x.c.Work[k][i]; call.Kind != was.Kind || call.A != was.A || call.B != was.B || call.C != was.C {
					t.Fatalf("rule 3: Play changed a call: %+v, was %+v", call, was)
				}
				c.Work[k][i] = api.Call{Kind: -99}
			}
		}
		keptRun, kept := plainRun(run), cloned(rows)
		writeOver(c.Turns)
		writeOver(c.Halt)
		if !sameRun(run, keptRun) || !sameLists(rows, kept) {
			t.Fatalf("rule 3: an answer hangs on what was handed in: %+v", x)
		}
		for i := range rows {
			writeOver(rows[i])
			rows[i], kept[i] = nil, nil
			if !sameLists(rows, kept) || !sameRun(run, keptRun) {
				t.Fatalf("rule 3: two rows share memory: %+v", x)
			}
		}
		for k, answers := range run.Answers {
			for i := range answers {
				writeOver(answers[i].Ints)
				answers[i].Ints = nil
				keptRun.Answers[k][i].Ints = nil
				if !sameRun(run, keptRun) {
					t.Fatalf("rule 3: two lists of an answer share memory: %+v", x)
				}
			}
		}
		wantModel(t, "rule 3: behind answers that were written over", x.s, x.c)
	})
}

func cloned(rows [][]int) [][]int {
	var list [][]int
	for _, row := range rows {
		list = append(list, slices.Clone(row))
	}
	return list
}

// leavesNothing: all goroutines have ended that came while f was at work.
func leavesNothing(t *testing.T, promise string, f func()) {
	t.Helper()
	before := runtime.NumGoroutine()
	f()
	for range 500 {
		if runtime.NumGoroutine() <= before {
			return
		}
		time.Sleep(time.Millisecond)
	}
	t.Errorf("%s: %d goroutines, %d ahead of it", promise, runtime.NumGoroutine(), before)
}

func TestPlayLeavesNothing(t *testing.T) {
	leavesNothing(t, "P24.4", func() {
		mixedRuns(7, 200, manners{wild: true, stops: true}, func(x mixed) { hazard.Play(x.s.slots, x.s.workers, x.s.roots, x.c) })
	})
}
