package hazard_test

import (
	"slices"
	"testing"

	"skein/api"
	"skein/crew"
	"skein/hazard"
	"skein/pool"
)

func TestNew(t *testing.T) {
	p, _ := pool.New(3)
	for workers := 1; workers <= 8; workers++ {
		for roots := 1; roots <= 16; roots++ {
			r, err := hazard.New(p, workers, roots)
			if err != api.OK || r == nil {
				t.Fatalf("P24.1: New(%d, %d): %v, %v", workers, roots, r, err)
			}
			if got := r.Roots(); !slices.Equal(got, make([]int, roots)) {
				t.Errorf("P24.1: New(%d, %d): roots %v", workers, roots, got)
			}
			for k := range workers {
				if h, l := r.Hazards(k), r.Waiting(k); !slices.Equal(h, []int{0, 0}) || len(l) != 0 {
					t.Errorf("P24.1: New(%d, %d): worker %d: %v, %v", workers, roots, k, h, l)
				}
			}
			wantNobody(t, r, workers)
		}
	}
	if len(p.Free()) != 3 {
		t.Errorf("P24.1: New takes slots: %v are free", p.Free())
	}
}

// wantNobody: of who is no worker nothing is told.
func wantNobody(t *testing.T, r *hazard.Rack, workers int) {
	t.Helper()
	for _, k := range []int{lowest, -1 << 32, -8, -2, -1, workers, workers + 1, 8, 9, 1 << 32, 1<<32 + 1, highest} {
		if h, l := r.Hazards(k), r.Waiting(k); h != nil || l != nil {
			t.Errorf("P24.3: of %d workers worker %d: %v, %v", workers, k, h, l)
		}
	}
}

func TestNewRefuses(t *testing.T) {
	p, _ := pool.New(3)
	refuses := func(p *pool.Pool, workers, roots int) {
		t.Helper()
		if r, err := hazard.New(p, workers, roots); r != nil || err != api.ErrHazardMany {
			t.Errorf("P24.1: New(%d, %d): %v, %v", workers, roots, r, err)
		}
	}
	for _, workers := range noWorkers {
		for _, roots := range slices.Concat(noRoots, []int{1, 2, 8, 16}) {
			refuses(p, workers, roots)
			refuses(nil, workers, roots)
		}
	}
	for _, roots := range noRoots {
		for _, workers := range []int{1, 2, 7, 8} {
			refuses(p, workers, roots)
		}
	}
	// New itself asks nothing of the pool.
	if r, err := hazard.New(nil, 1, 1); r == nil || err != api.OK {
		t.Errorf("P24.1: New of no pool: %v, %v", r, err)
	}
}

// own: an answer in so many lines.
func own(lines int, a api.Answer) api.Answer {
	a.Own = lines
	return a
}

func number(n int) api.Answer        { return api.Answer{N: n} }
func laid(n int) api.Answer          { return api.Answer{Ok: true, N: n} }
func node(a, b, c, d int) api.Answer { return api.Answer{Ints: []int{a, b, c, d}} }

const (
	none  = api.ErrHazardNone
	full  = api.ErrPoolFull
	gone  = api.ErrPoolGone
	place = api.ErrHazardPlace
	noone = api.ErrHazardWorker
	root  = api.ErrHazardRoot
)

// steps: a run of the last one of some workers, its answers one behind the other.
func steps(k int, answers ...api.Answer) api.Run {
	at := 0
	for i := range answers {
		answers[i].Begin, answers[i].End = at+1, at+answers[i].Own
		at += answers[i].Own
	}
	r := api.Run{Answers: make([][]api.Answer, k+1), Steps: at}
	r.Answers[k] = answers
	return r
}

// by: a case of calls of worker k alone.
func by(k int, calls ...api.Call) api.Case {
	c := api.Case{Work: make([][]api.Call, k+1)}
	c.Work[k] = calls
	return c
}

// What isn't there: at once and one at a time, of each call; each by one line, and nothing has changed.
func TestRefusals(t *testing.T) {
	ahead := []api.Call{swap(0, 1), protect(0, 0), swap(0, 2)}
	for _, workers := range []int{1, 2, 3, 8} {
		for k := range 8 {
			if k >= workers && workers == 3 && k > 4 {
				continue
			}
			for _, roots := range []int{1, 2, 16} {
				var calls []api.Call
				var want []api.Errno
				add := func(c api.Call, err api.Errno) {
					if k >= workers {
						err = noone
					}
					if err != api.OK {
						calls, want = append(calls, c), append(want, err)
					}
				}
				for _, i := range append([]int{0, 1}, noHazards...) {
					none := api.OK
					if i != 0 && i != 1 {
						none = place
					}
					add(read(i), none)
					add(clearOf(i), none)
					for _, at := range []int{lowest, -17, -1, 0, roots - 1, roots, roots + 1, 17, 1 << 32, highest} {
						err, alone := none, api.OK
						if at < 0 || at >= roots {
							alone = root
						}
						if err == api.OK {
							err = alone
						}
						add(protect(i, at), err)
						add(put(i, at, 1), err)
						add(swap(at, 1), alone)
						add(drop(at), alone)
					}
				}
				add(scan(), api.OK)
				for at := 0; at < len(calls); at += 60 {
					wantRefused(t, shape{slots: 4, workers: workers, roots: roots}, k, ahead, calls[at:min(at+60, len(calls))], want[at:])
				}
			}
		}
	}
}

func wantRefused(t *testing.T, s shape, k int, ahead, calls []api.Call, want []api.Errno) {
	t.Helper()
	c := api.Case{Work: make([][]api.Call, max(2, k+1))}
	c.Work[0] = ahead
	_, before := wantNamed(t, "P24.2: ahead of refused calls", s, c)
	c.Turns = make([]int, 4+3+4)
	c.Work[k] = append(slices.Clone(c.Work[k]), calls...)
	run, left := wantNamed(t, "P24.2: refused calls", s, c)
	wantModel(t, "P24.4: refused calls", s, c)
	if !left.same(before) {
		t.Fatalf("P24.2: %+v, worker %d, %+v: %+v, want %+v", s, k, calls, left, before)
	}
	for n, a := range run.Answers[k][len(c.Work[k])-len(calls):] {
		if !sameAnswer(a, failed(want[n])) || a.Own != 1 {
			t.Errorf("P24.2: %+v, worker %d, %+v: %+v, want %v", s, k, calls[n], a, want[n])
		}
	}
}

// What is refused is a line of its own, also where one call of a run does several of a rack's.
func TestRefusalsAreLines(t *testing.T) {
	for n, c := range []api.Call{read(0), read(2), clearOf(2), protect(0, 1), protect(0, 0), swap(1, 1), put(0, 1, 1), drop(1), drop(0)} {
		b := newReal(t, shape{slots: 1, workers: 1, roots: 1})
		run, err := crew.Run(by(0, c), does(func(w *crew.Worker, c api.Call) api.Answer {
			b.Do(w, c)
			return b.Do(w, c)
		}))
		if err != api.OK || run.Steps != 2 || run.Answers[0][0].Err == api.OK {
			t.Errorf("P24.2: refusal %d, twice: %+v", n, run)
		}
	}
}

// Alone: each call's answers, what it leaves.
func TestAlone(t *testing.T) {
	for _, workers := range []int{1, 8} {
		b := newReal(t, shape{slots: 4, workers: workers, roots: 2})
		m := newModel(shape{slots: 4, workers: workers, roots: 2})
		for n, x := range []struct {
			call api.Call
			want api.Answer
		}{
			{protect(0, 0), failed(none)}, {read(0), failed(none)}, {drop(0), failed(none)}, {clearOf(0), api.Answer{}}, {scan(), number(0)},
			{put(0, 1, 5), laid(first(1))}, {put(0, 1, 6), api.Answer{}}, {swap(0, 7), number(word(2, 3))},
			{protect(1, 1), number(first(1))}, {protect(0, 1), number(first(1))}, {read(0), node(5, 0, 0, 0)}, {read(1), node(5, 0, 0, 0)},
			{put(1, 1, 8), laid(word(3, 1))}, {put(1, 1, 9), api.Answer{}}, {scan(), number(0)}, {clearOf(1), api.Answer{}}, {scan(), number(0)},
			{clearOf(0), api.Answer{}}, {read(0), failed(none)}, {scan(), number(1)}, {drop(0), number(word(2, 3))}, {drop(0), failed(none)},
			{drop(1), number(word(3, 1))}, {swap(0, 1), number(word(1, 3))}, {swap(0, 2), number(word(4, 3))}, {swap(0, 3), failed(full)}, {put(0, 0, 3), failed(full)},
			{protect(0, 0), number(word(4, 3))}, {protect(0, 1), failed(none)}, {read(0), node(2, -2, 0, 0)}, {scan(), number(3)},
		} {
			a := b.Do(nil, x.call)
			if want := m.alone(x.call); !sameAnswer(a, want) || !b.state().same(m.state()) {
				t.Fatalf("rule 10: call %d: %+v, %+v, want %+v, %+v", n, a, b.state(), want, m.state())
			}
			if !sameAnswer(a, x.want) {
				t.Errorf("P24.2: call %d, %+v: %+v, want %+v", n, x.call, a, x.want)
			}
		}
		wantNobody(t, b.racks[0], workers)
	}
}

// stop: a call behind others, all of worker 0; what roots, hazards, lists, free slots there are behind each of its lines.
type stop struct {
	name  string
	slots int
	ahead []api.Call
	call  api.Call
	left  []left
}

// left: of worker 0, and of the one root.
type left struct {
	root    int
	hazards []int
	waits   []int
	free    []int
}

func stops() []stop {
	h := []int{0, first(1), first(2), first(3), first(4)}
	holds := func(a, b int) []int { return []int{h[a], h[b]} }
	nothing := left{0, holds(0, 0), nil, upTo(3)}
	one := left{h[1], holds(0, 0), nil, []int{2, 3}}
	named := left{h[1], holds(1, 0), nil, []int{2, 3}}
	old := []api.Call{swap(0, 1), protect(0, 0), swap(0, 2)}
	behind := left{h[2], holds(1, 0), []int{h[1]}, []int{3}}
	taken := left{h[2], holds(1, 0), []int{h[1]}, nil}
	three := []api.Call{swap(0, 1), swap(0, 2), protect(1, 0), swap(0, 3), drop(0)}
	all := left{0, holds(0, 2), []int{h[1], h[2], h[3]}, nil}
	without1 := left{0, holds(0, 2), []int{h[2], h[3]}, nil}
	without3 := left{0, holds(0, 2), []int{h[2]}, []int{1}}
	return []stop{
		{"Protect of a root that is 0", 3, nil, protect(0, 0), []left{nothing}},
		{"Protect", 3, []api.Call{swap(0, 1)}, protect(0, 0), []left{one, named, named}},
		{"Protect by a hazard that holds another one", 3, old, protect(0, 0), []left{behind, {h[2], holds(2, 0), []int{h[1]}, []int{3}}, {h[2], holds(2, 0), []int{h[1]}, []int{3}}}},
		{"Protect of a root that is 0 by a hazard that holds something", 3, []api.Call{swap(0, 1), protect(0, 0), drop(0)}, protect(0, 0), []left{{0, holds(1, 0), []int{h[1]}, []int{2, 3}}}},
		{"Read", 3, old, read(0), []left{behind}},
		{"Read of nothing", 3, old, read(1), []left{behind}},
		{"Clear", 3, old, clearOf(0), []left{{h[2], holds(0, 0), []int{h[1]}, []int{3}}}},
		{"Clear of the other one", 3, old, clearOf(1), []left{behind}},
		{"Swap", 3, nil, swap(0, 1), []left{nothing, nothing, {0, holds(0, 0), nil, []int{2, 3}}, one}},
		{"Swap of a root that isn't 0", 3, []api.Call{swap(0, 1)}, swap(0, 2), []left{one, one, {h[1], holds(0, 0), nil, []int{3}}, {h[2], holds(0, 0), []int{h[1]}, []int{3}}}},
		{"Swap in a full pool", 1, []api.Call{swap(0, 1)}, swap(0, 2), []left{{h[1], holds(0, 0), nil, nil}}},
		{"Put by a hazard that holds 0", 3, nil, put(1, 0, 1), []left{nothing, nothing, {0, holds(0, 0), nil, []int{2, 3}}, one}},
		{"Put", 3, []api.Call{swap(0, 1), protect(0, 0)}, put(0, 0, 2), []left{named, named, {h[1], holds(1, 0), nil, []int{3}}, behind}},
		{"Put that fails", 3, old, put(0, 0, 3), []left{behind, behind, taken, taken, taken, taken, taken, behind}},
		{"Put that fails by a hazard that holds 0", 3, old, put(1, 0, 3), []left{behind, behind, taken, taken, taken, taken, taken, behind}},
		{"Put that fails at a root that is 0", 2, []api.Call{swap(0, 1), protect(0, 0), drop(0)}, put(0, 0, 3), slices.Concat(
			slices.Repeat([]left{{0, holds(1, 0), []int{h[1]}, []int{2}}}, 2), slices.Repeat([]left{{0, holds(1, 0), []int{h[1]}, nil}}, 5), []left{{0, holds(1, 0), []int{h[1]}, []int{2}}},
		)},
		{"Put in a full pool", 1, []api.Call{swap(0, 1), protect(0, 0)}, put(0, 0, 2), []left{{h[1], holds(1, 0), nil, nil}}},
		{"Drop", 3, old, drop(0), []left{{0, holds(1, 0), []int{h[1], h[2]}, []int{3}}}},
		{"Drop of nothing", 3, nil, drop(0), []left{nothing}},
		{"Scan of nothing", 3, nil, scan(), slices.Repeat([]left{nothing}, 4)},
		{"Scan of which none goes", 3, old, scan(), slices.Repeat([]left{behind}, 4)},
		{"Scan of which some go", 3, three, scan(), []left{all, all, all, without1, without1, without1, without1, {0, holds(0, 2), []int{h[2]}, []int{1}}, without3, without3, without3, {0, holds(0, 2), []int{h[2]}, []int{3, 1}}}},
		{"Scan of which all go", 2, []api.Call{swap(0, 1), swap(0, 2), drop(0)}, scan(), slices.Concat(
			slices.Repeat([]left{{0, holds(0, 0), []int{h[1], h[2]}, nil}}, 3), slices.Repeat([]left{{0, holds(0, 0), []int{h[2]}, nil}}, 4),
			slices.Repeat([]left{{0, holds(0, 0), nil, []int{1}}}, 4), []left{{0, holds(0, 0), nil, []int{2, 1}}},
		)},
		{"no call", 3, old, api.Call{Kind: 8}, []left{behind}},
	}
}

// A call that is stopped for good has done its lines and no more: what each line does, to the word.
func TestHaltsAndCutsAtEveryLine(t *testing.T) {
	for _, x := range stops() {
		s := shape{slots: x.slots, workers: 2, roots: 1}
		ahead := modelRun(work(x.ahead), newModel(s).begin(false)).Steps
		for at := 1; at <= len(x.left); at++ {
			for _, cut := range []bool{false, true} {
				c := work(append(slices.Clone(x.ahead), x.call, clearOf(0)))
				c.Halt = []int{ahead + at}
				if cut {
					c.Halt, c.Until = nil, ahead+at
				}
				run, got := wantNamed(t, "P24.2: "+x.name, s, c)
				wantModel(t, "P24.4: "+x.name, s, c)
				open, ended := []api.Open{{Worker: 0, Begin: ahead + 1, Own: at}}, len(x.ahead)
				if at == len(x.left) {
					open, ended = nil, ended+1
				}
				want, r := x.left[at-1], got.racks[0]
				if run.Cut != cut || run.Steps != ahead+at || !slices.Equal(run.Open, open) || len(run.Answers[0]) != ended {
					t.Errorf("P24.2: %s, stopped behind %d lines, cut %v: %+v", x.name, at, cut, run)
				}
				if r.roots[0] != want.root || !slices.Equal(r.hazards[0], want.hazards) || !slices.Equal(r.waits[0], want.waits) || !slices.Equal(got.free[0], want.free) || got.faults[0] != 0 {
					t.Errorf("P24.2: %s, stopped behind %d lines, cut %v: %+v, want %+v", x.name, at, cut, got, want)
				}
			}
		}
	}
}

// Behind a worker that was halted in the midst the others do all their calls, and no slot is given back too early.
func TestOthersGoOnBehindAHalt(t *testing.T) {
	for _, x := range stops() {
		s := shape{slots: x.slots + 3, workers: 2, roots: 1}
		ahead := modelRun(work(x.ahead), newModel(s).begin(false)).Steps
		for at := range len(x.left) {
			if ahead+at == 0 {
				continue
			}
			others := []api.Call{protect(0, 0), read(0), swap(0, 71), scan(), protect(1, 0), read(1), put(1, 0, 72), clearOf(0), scan(), clearOf(1), scan(), drop(0), scan()}
			c := work(append(slices.Clone(x.ahead), x.call), others)
			c.Turns, c.Halt = make([]int, ahead+at), []int{ahead + at}
			run, left := wantNamed(t, "P24.2: behind a halt", s, c)
			if run.Cut || len(run.Answers[1]) != len(others) || left.faults[0] != 0 || len(left.racks[0].waits[1]) > 1 {
				t.Errorf("P24.7: %s, halted behind %d lines: %+v, %+v", x.name, at, run, left)
			}
		}
	}
}

// turns: whose turn it is, and how often.
func turns(list ...int) []int {
	var all []int
	for i := 0; i < len(list); i += 2 {
		all = append(all, slices.Repeat([]int{list[i]}, list[i+1])...)
	}
	return all
}

// A root that another worker changes between the loads of a Protect: once, twice, to nothing; ahead of the name, and behind it.
func TestProtectOfARootThatChanges(t *testing.T) {
	h := []int{0, first(1), first(2), first(3)}
	for _, x := range []struct {
		name    string
		of      []api.Call // of worker 0, who lays the root down by its first one
		turns   []int
		lines   int
		want    api.Answer
		hazards []int
	}{
		{"once, ahead of the store", []api.Call{swap(0, 1), swap(0, 2)}, turns(0, 4, 1, 1, 0, 4, 1, 9), 5, number(h[2]), []int{h[2], 0}},
		{"once, behind the store", []api.Call{swap(0, 1), swap(0, 2)}, turns(0, 4, 1, 2, 0, 4, 1, 9), 5, number(h[2]), []int{h[2], 0}},
		{"twice, ahead of one load", []api.Call{swap(0, 1), swap(0, 2), swap(0, 3)}, turns(0, 4, 1, 2, 0, 8, 1, 9), 5, number(h[3]), []int{h[3], 0}},
		{"twice, ahead of two loads", []api.Call{swap(0, 1), swap(0, 2), swap(0, 3)}, turns(0, 4, 1, 2, 0, 4, 1, 1, 0, 4, 1, 9), 7, number(h[3]), []int{h[3], 0}},
		{"twice, ahead of each store", []api.Call{swap(0, 1), swap(0, 2), swap(0, 3)}, turns(0, 4, 1, 1, 0, 4, 1, 2, 0, 4, 1, 9), 7, number(h[3]), []int{h[3], 0}},
		{"to nothing, ahead of the store", []api.Call{swap(0, 1), drop(0)}, turns(0, 4, 1, 1, 0, 1, 1, 9), 4, failed(none), []int{0, 0}},
		{"to nothing, behind the store", []api.Call{swap(0, 1), drop(0)}, turns(0, 4, 1, 2, 0, 1, 1, 9), 4, failed(none), []int{0, 0}},
		{"to nothing and back", []api.Call{swap(0, 1), drop(0), swap(0, 3)}, turns(0, 4, 1, 2, 0, 5, 1, 9), 5, number(h[2]), []int{h[2], 0}},
		{"to nothing, seen, and back", []api.Call{swap(0, 1), drop(0), swap(0, 3)}, turns(0, 4, 1, 2, 0, 1, 1, 1, 0, 4, 1, 9), 4, failed(none), []int{0, 0}},
		{"once, and then to nothing", []api.Call{swap(0, 1), swap(0, 2), drop(0)}, turns(0, 4, 1, 2, 0, 4, 1, 2, 0, 1, 1, 9), 6, failed(none), []int{0, 0}},
		{"behind the last load", []api.Call{swap(0, 1), swap(0, 2)}, turns(0, 4, 1, 3, 0, 9), 3, number(h[1]), []int{h[1], 0}},
		{"of another root", []api.Call{swap(0, 1), swap(1, 2)}, turns(0, 4, 1, 2, 0, 4, 1, 9), 3, number(h[1]), []int{h[1], 0}},
	} {
		c := work(x.of, []api.Call{protect(0, 0)})
		c.Turns = x.turns
		run, left := wantNamed(t, "P24.2: a root that changes "+x.name, shape{slots: 4, workers: 2, roots: 2}, c)
		a := run.Answers[1][0]
		if !sameAnswer(a, x.want) || a.Own != x.lines || !slices.Equal(left.racks[0].hazards[1], x.hazards) {
			t.Errorf("P24.8: a root that changes %s: %+v, %v, want %+v", x.name, a, left.racks[0].hazards[1], x)
		}
	}
}

// What a hazard names was given back by hand: Read answers the pool's error, and the pool counts a fault.
func TestReadOfWhatWasGivenBackByHand(t *testing.T) {
	s := shape{slots: 2, workers: 1, roots: 1}
	// The Put takes slot 1 anew at once, so the handle in the list isn't that slot's any more.
	c := by(0, swap(0, 1), protect(0, 0), give(first(1)), read(0), read(0), read(1), protect(1, 0), put(1, 0, 9), scan(), clearOf(0), scan(), clearOf(1), scan())
	run, left := wantNamed(t, "P24.2: given back by hand", s, c)
	want := steps(0,
		own(4, number(first(1))), own(3, number(first(1))), own(4, api.Answer{}), own(1, failed(gone)), own(1, failed(gone)), own(1, failed(none)),
		own(3, number(first(1))), own(4, laid(word(1, 3))), own(2, number(0)), own(1, api.Answer{}), own(2, number(0)), own(1, api.Answer{}), own(3, number(1)),
	)
	if !sameRun(run, want) || left.faults[0] != 2 || len(left.racks[0].waits[0]) != 0 || left.slots[0][0].Gen != 3 {
		t.Errorf("P24.2: given back by hand: %+v, %+v", run, left)
	}
	c = by(0, swap(0, 1), give(first(1)), swap(0, 2), swap(0, 3), scan(), read(0))
	run, left = wantNamed(t, "P24.2: a Give that fails", s, c)
	if a := run.Answers[0][4]; a.N != 2 || a.Own != 2+1+4 || a.Err != api.OK || left.faults[0] != 0 || len(left.racks[0].waits[0]) != 0 {
		t.Errorf("P24.2: a Give that fails: %+v, %+v", run, left)
	}
}

// A Put whose new slot somebody gave back by hand ahead of its Give answers that Give's error.
func TestPutsGiveThatFails(t *testing.T) {
	c := work([]api.Call{swap(0, 1), put(0, 0, 2)}, []api.Call{give(first(2))})
	c.Turns = turns(0, 4+3, 1, 4, 0, 9)
	run, left := wantNamed(t, "P24.2: a Put's Give that fails", shape{slots: 3, workers: 2, roots: 1}, c)
	if a := run.Answers[0][1]; !sameAnswer(a, failed(gone)) || a.Own != 5 || left.faults[0] != 0 {
		t.Errorf("errors of layer 10 are answered as they are: %+v", a)
	}
}

// A Scan's loads: two of each worker of the rack, in their order; each tells what stands there then.
func TestScansLoads(t *testing.T) {
	for workers := 2; workers <= 8; workers++ {
		s := shape{slots: 4, workers: workers, roots: 1}
		for k := 1; k < workers; k++ {
			for i := range 2 {
				c := api.Case{Work: make([][]api.Call, workers)}
				c.Work[0] = []api.Call{swap(0, 1), drop(0), scan()}
				c.Work[k] = []api.Call{protect(i, 0), clearOf(i)}
				// Once the name is taken away just ahead of the load, once just behind it; Protect is done ahead of the Drop.
				for late := range 2 {
					ahead := 2*k + i + late
					c.Turns = turns(0, 4, 1, 3, 0, 1+ahead, 1, 1, 0, 30)
					run, left := wantNamed(t, "P24.2: a Scan's loads", s, c)
					a := run.Answers[0][2]
					if a.N != 1-late || a.Own != 2*workers+4*(1-late) || len(left.racks[0].waits[0]) != late {
						t.Errorf("P24.2: %d workers, hazard %d of worker %d is cleared behind %d loads: %+v, %+v", workers, i, k, ahead, a, left)
					}
				}
			}
		}
	}
}

// The first handle of the list that nobody names goes first; the list keeps its order. One that stands in two hazards, or in more, is kept as one that stands in one.
func TestWhatAScanKeeps(t *testing.T) {
	const n = 6
	for named := range 1 << n {
		for twice := range 2 {
			s := shape{slots: n + 1, workers: 4, roots: n}
			c := api.Case{Work: make([][]api.Call, 4)}
			var kept, goes []int
			for at := range n {
				c.Work[0] = append(c.Work[0], swap(at, at))
				if named&(1<<at) == 0 {
					goes = append(goes, at+1)
					continue
				}
				kept = append(kept, first(at+1))
				c.Work[1+at/2] = append(c.Work[1+at/2], protect(at%2, at))
				if twice == 1 && at < 2 {
					c.Work[0] = append(c.Work[0], protect(at, at))
				}
			}
			ahead := modelRun(by(0, c.Work[0]...), newModel(s).begin(false)).Steps
			for at := range n {
				c.Work[0] = append(c.Work[0], drop(at))
			}
			c.Work[0] = append(c.Work[0], scan())
			// Who is the second one of those that are ready has calls always, till nothing is left to protect.
			c.Turns = turns(0, ahead, 1, 3*len(kept), 0, 99)
			run, left := wantNamed(t, "P24.2: what a Scan keeps", s, c)
			answers := run.Answers[0]
			a := answers[len(answers)-1]
			// What went first lies deepest in the pile.
			free := append([]int{n + 1}, goes...)
			slices.Reverse(free)
			if a.N != len(goes) || a.Own != 8+4*len(goes) || !slices.Equal(left.racks[0].waits[0], kept) || !slices.Equal(left.free[0], free) {
				t.Fatalf("P24.2: %06b are named, twice %d: %+v, %+v, want %v and %v", named, twice, a, left, kept, free)
			}
		}
	}
}

// The lists are of those who took off, whoever laid down; a Scan goes through its worker's own one alone.
func TestWhoseListItIs(t *testing.T) {
	s := shape{slots: 6, workers: 3, roots: 2}
	c := work(
		[]api.Call{swap(0, 1), swap(1, 2), scan()},
		[]api.Call{swap(0, 3), scan()},
		[]api.Call{protect(0, 0), drop(0), protect(1, 1), put(1, 1, 4), scan()},
	)
	c.Turns = turns(0, 8, 1, 4, 2, 3+1+3+4, 0, 6)
	c.Halt = []int{0, 4}
	run, left := wantNamed(t, "P24.2: whose list it is", s, c)
	if r := left.racks[0]; !sameLists(r.waits, [][]int{nil, {first(1)}, {first(3), first(2)}}) || run.Answers[0][2].N != 0 || run.Answers[2][4].N != 0 {
		t.Errorf("P24.2: whose list it is: %+v, %+v", run, left)
	}
	c.Halt = nil
	c.Turns = append(c.Turns, turns(0, 6+4)...)
	run, left = wantNamed(t, "P24.2: whose list it is", s, c)
	if r := left.racks[0]; !sameLists(r.waits, [][]int{nil, nil, {first(3), first(2)}}) || run.Answers[1][1].N != 1 {
		t.Errorf("P24.2: whose list it is: %+v, %+v", run, left)
	}
}

// A long list: all of a pool's slots; alone.
func TestLongLists(t *testing.T) {
	b := newReal(t, shape{slots: 4096, workers: 1, roots: 16})
	r := b.racks[0]
	for n := range 4096 {
		if h, err := r.Swap(nil, n%16, api.Node{A: n}); h != first(n+1) || err != api.OK {
			t.Fatalf("P24.2: Swap %d: %d, %v", n, h, err)
		}
		if n == 1000 {
			r.Protect(nil, 0, n%16)
		}
		if n == 4000 {
			r.Protect(nil, 1, n%16)
		}
	}
	if h, err := r.Swap(nil, 0, api.Node{}); h != 0 || err != full {
		t.Errorf("P24.2: Swap in a full pool: %d, %v", h, err)
	}
	if n, err := r.Scan(nil); n != 4096-16-2 || err != api.OK || !slices.Equal(r.Waiting(0), []int{first(1001), first(4001)}) {
		t.Errorf("P24.2: a long Scan: %d, %v, %v", n, err, r.Waiting(0))
	}
	r.Clear(nil, 0)
	if n, _ := r.Scan(nil); n != 1 || !slices.Equal(r.Waiting(0), []int{first(4001)}) || b.pools[0].Faults() != 0 {
		t.Errorf("P24.2: a Scan behind a Clear: %d, %v", n, r.Waiting(0))
	}
}

// What is told is new memory: written over, it changes nothing.
func TestWhatIsToldIsNewMemory(t *testing.T) {
	b := newReal(t, shape{slots: 8, workers: 2, roots: 3})
	r := b.racks[0]
	for n := range 5 {
		r.Swap(nil, n%3, api.Node{A: n})
	}
	r.Protect(nil, 0, 1)
	r.Protect(nil, 1, 2)
	was := b.state()
	was.racks[0].waits[0] = slices.Clone(was.racks[0].waits[0])
	if len(was.racks[0].waits[0]) != 2 {
		t.Fatalf("the case is too plain: %+v", was)
	}
	for range 2 {
		for _, tell := range []func() []int{r.Roots, func() []int { return r.Hazards(0) }, func() []int { return r.Hazards(1) }, func() []int { return r.Waiting(0) }, func() []int { return r.Waiting(1) }} {
			one, other := tell(), tell()
			writeOver(one)
			if now := tell(); !slices.Equal(other, now) || !b.state().same(was) {
				t.Errorf("rule 3: %v, %v, %+v, want %+v", other, now, b.state(), was)
			}
		}
	}
	waits := r.Waiting(0)
	r.Clear(nil, 0)
	r.Swap(nil, 0, api.Node{})
	r.Clear(nil, 1)
	r.Scan(nil)
	if !slices.Equal(waits, was.racks[0].waits[0]) {
		t.Errorf("rule 3: an answer changes behind it: %v", waits)
	}
}

// writeOver writes into a list and all the spare room behind it.
func writeOver(list []int) {
	list = list[:cap(list)]
	for i := range list {
		list[i] = -99
	}
}
