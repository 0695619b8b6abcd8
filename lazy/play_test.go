package lazy_test

import (
	"runtime"
	"slices"
	"testing"
	"time"

	"skein/api"
	"skein/lazy"
)

func some(n int, m api.Maker) []api.Maker {
	list := make([]api.Maker, n)
	for i := range list {
		list[i] = m
	}
	return list
}

func TestPlayRefuses(t *testing.T) {
	good := work([]api.Call{once(0)})
	bad := api.Case{}
	for _, x := range []struct {
		makers []api.Maker
		c      api.Case
		err    api.Errno
	}{
		{nil, good, api.ErrLazyMaker},
		{[]api.Maker{}, good, api.ErrLazyMaker},
		{some(257, makes(1)), good, api.ErrLazyMaker},
		{some(258, falls(9, 1)), good, api.ErrLazyMaker},
		{some(100000, makes(1)), good, api.ErrLazyMaker},
		{nil, bad, api.ErrLazyMaker},
		{some(257, makes(1)), bad, api.ErrLazyMaker},
		{some(1, makes(1)), bad, api.ErrCrewCase},
		{some(256, falls(9, 1)), bad, api.ErrCrewCase},
		{some(1, makes(1)), api.Case{Work: make([][]api.Call, 9)}, api.ErrCrewCase},
		{some(1, makes(1)), work(nil, make([]api.Call, 65)), api.ErrCrewCase},
		{some(1, makes(1)), api.Case{Work: good.Work, Until: -1}, api.ErrCrewCase},
		{some(1, makes(1)), api.Case{Work: good.Work, Until: api.MaxSteps + 1}, api.ErrCrewCase},
	} {
		run, made, err := lazy.Play(x.makers, x.c)
		if err != x.err || !sameRun(run, api.Run{}) || len(made) > 0 {
			t.Errorf("P7.4: Play of %d makers, %+v: %+v, %v, %v, want %v", len(x.makers), x.c, run, made, err, x.err)
		}
	}
}

// Of what nobody asks nothing is made.
func TestIdlePlay(t *testing.T) {
	for _, n := range []int{1, 2, 255, 256} {
		for _, m := range []api.Maker{makes(7), fails(1, 7), falls(1, 7)} {
			wantPlay(t, "P7.5: no calls", some(n, m), work(nil, nil), api.Run{Answers: [][]api.Answer{nil, nil}}, make([]api.Made, n))
		}
	}
	list := make([]api.Made, 3)
	wantPlay(t, "P7.5: no Gets", some(3, makes(7)), work([]api.Call{made(), onceDone(1), retryDone(2)}), api.Run{Steps: 3, Answers: [][]api.Answer{
		{{Begin: 1, End: 1, Own: 1}, {Begin: 2, End: 2, Own: 1}, {Begin: 3, End: 3, Own: 1}},
	}}, list)
}

// A maker fails so often as it is told, in the way that it is told, and makes its value then.
func TestMakersOfPlay(t *testing.T) {
	for _, times := range []int{lowest, -1, 0, 1, 2, 3, 62, 63, 64, highest} {
		for _, v := range []int{lowest, -1, 0, 1, highest} {
			for _, m := range []api.Maker{fails(times, v), falls(times, v)} {
				var calls []api.Call
				for range api.MaxCalls {
					calls = append(calls, retry(0))
				}
				run, made := wantModel(t, "P7.4", []api.Maker{m}, work(calls, []api.Call{once(0), place(0), once(0), place(0)}))
				want := api.Answer{Err: api.ErrLazyFail}
				if m.Falls {
					want.Err = api.ErrLazyPanic
				}
				for i, a := range run.Answers[0] {
					if i >= times {
						want = api.Answer{N: v}
					}
					if !sameAnswer(a, want) {
						t.Fatalf("P7.4: %+v: Get %d: %+v, want %+v", m, i, a, want)
					}
				}
				asks := max(1, min(api.MaxCalls, times)+1)
				if times >= api.MaxCalls {
					asks = api.MaxCalls
				}
				if made[0].Calls != [3]int{1, asks, 1} {
					t.Errorf("P7.4: %+v: called %v, want %d of the Retry", m, made[0].Calls, asks)
				}
			}
		}
	}
}

// A Once, a Retry and the table's stand by themselves, and so does each place.
func TestEachByItself(t *testing.T) {
	makers := []api.Maker{fails(1, 5), makes(6), falls(1, 7)}
	for k := range 3 {
		for i, m := range makers {
			var calls []api.Call
			for range 3 {
				calls = append(calls, api.Call{Kind: k + 1, A: i})
			}
			want := make([]api.Made, 3)
			want[i].Calls[k] = 1
			if k == 1 {
				want[i].Calls[k] = max(m.Fails, 0) + 1
			}
			if want[i].Calls[k] > m.Fails {
				want[i].Done[k], want[i].Values[k] = true, m.Value
			}
			if _, made, err := lazy.Play(makers, work(calls)); err != api.OK || !slices.Equal(made, want) {
				t.Errorf("P7.4: kind %d, place %d: %v, %v, want %v", k+1, i, made, err, want)
			}
		}
	}
}

func TestKindsThatCantBe(t *testing.T) {
	refused := api.Answer{Begin: 1, End: 1, Own: 1, Err: api.ErrLazyCall}
	for _, kind := range []int{lowest, -7, -1, 0, 8, 9, 100, 1<<32 + 1, highest} {
		for _, place := range []int{lowest, -1, 0, 1, 2, 40, highest} {
			call := api.Call{Kind: kind, A: place, B: 1, C: 4, Pairs: []api.Pair{{Key: 1, Value: 2}}}
			wantPlay(t, "P7.4: a Kind that can't be", some(2, makes(3)), work([]api.Call{call}), api.Run{Steps: 1, Answers: [][]api.Answer{{refused}}}, make([]api.Made, 2))
		}
	}
	wantPlay(t, "P7.4: behind a refused call", some(1, makes(3)), work([]api.Call{{Kind: 8}, once(0)}), api.Run{Steps: 2, Answers: [][]api.Answer{
		{refused, {Begin: 2, End: 2, Own: 1, N: 3}},
	}}, []api.Made{{Calls: [3]int{1}, Done: [3]bool{true}, Values: [3]int{3}}})
}

// A call of no place is a line, and calls no maker; what comes behind it goes on.
func TestNoPlace(t *testing.T) {
	for _, n := range []int{1, 2, 256} {
		for _, i := range []int{lowest, lowest + 1, -1 << 32, -256, -n, -1, n, n + 1, 2 * n, 256, 257, 1 << 32, 1<<32 + 1, highest} {
			for _, call := range []api.Call{once(i), retry(i), place(i), onceDone(i), retryDone(i)} {
				want := make([]api.Made, n)
				want[0] = api.Made{Calls: [3]int{0, 1}, Done: [3]bool{false, true}, Values: [3]int{0, 4}}
				wantPlay(t, "P7.4: no place", some(n, makes(4)), work([]api.Call{call, retry(0)}), api.Run{Steps: 2, Answers: [][]api.Answer{{
					{Begin: 1, End: 1, Own: 1, Err: api.ErrLazyMaker}, {Begin: 2, End: 2, Own: 1, N: 4},
				}}}, want)
			}
		}
	}
}

func TestLastPlace(t *testing.T) {
	for _, n := range []int{1, 2, 255, 256} {
		last := n - 1
		for _, m := range []api.Maker{makes(9), fails(1, 9), falls(1, 9)} {
			makers := append(some(last, makes(2)), m)
			wantModel(t, "P7.4: the last place", makers, work([]api.Call{
				onceDone(last), once(last), onceDone(last), retry(last), retryDone(last), retry(last), retryDone(last), made(), place(last), made(), all(), made(),
			}))
		}
	}
}

// What a call has no use for isn't looked at, nor answered.
func TestFieldsWithoutUse(t *testing.T) {
	rest := []api.Pair{{Key: 1, Value: 2}}
	c := work([]api.Call{
		{Kind: 1, A: 1, B: -4, C: 9, Pairs: rest},
		{Kind: 2, A: 1, B: 99, C: -9, Pairs: rest},
		{Kind: 3, A: 1, B: -1, C: 9, Pairs: rest},
		{Kind: 5, A: -1, B: 99, C: -1, Pairs: rest},
		{Kind: 4, A: 99, B: -1, C: 99, Pairs: rest},
		{Kind: 6, A: 0, B: lowest, C: 9, Pairs: rest},
		{Kind: 7, A: 1, B: -1, C: 9, Pairs: rest},
		{Kind: 4, A: lowest, B: -1, C: 9, Pairs: rest},
		{Kind: 5, A: highest, B: -1, C: 9, Pairs: rest},
	})
	wantPlay(t, "P7.4: fields", []api.Maker{makes(3), makes(4)}, c, api.Run{Steps: 11, Answers: [][]api.Answer{{
		{Begin: 1, End: 1, Own: 1, N: 4},
		{Begin: 2, End: 2, Own: 1, N: 4},
		{Begin: 3, End: 3, Own: 1, N: 4},
		{Begin: 4, End: 4, Own: 1, Ints: []int{1}},
		{Begin: 5, End: 6, Own: 2, Ints: []int{3, 4}},
		{Begin: 7, End: 7, Own: 1},
		{Begin: 8, End: 8, Own: 1, Ok: true},
		{Begin: 9, End: 10, Own: 2, Ints: []int{3, 4}},
		{Begin: 11, End: 11, Own: 1, Ints: []int{0, 1}},
	}}}, []api.Made{
		{Calls: [3]int{0, 0, 1}, Done: [3]bool{false, false, true}, Values: [3]int{0, 0, 3}},
		{Calls: [3]int{1, 1, 1}, Done: [3]bool{true, true, true}, Values: [3]int{4, 4, 4}},
	})
}

func TestGreatestCase(t *testing.T) {
	r := mixer(3)
	var c api.Case
	var makers []api.Maker
	for range api.MaxCells {
		makers = append(makers, r.maker())
	}
	for range api.MaxWorkers {
		var calls []api.Call
		for range api.MaxCalls {
			calls = append(calls, r.call(api.MaxCells, true))
		}
		c.Work = append(c.Work, calls)
	}
	c.Turns = []int{5, 3, 3, -1}
	wantModel(t, "P7.4: the greatest case", makers, c)
	for k := range c.Work {
		for i := range c.Work[k] {
			c.Work[k][i] = all()
		}
	}
	run, _ := wantModel(t, "P7.4: a case that is cut at its most steps", some(api.MaxCells, makes(1)), c)
	if run.Steps != api.MaxSteps || !run.Cut || len(run.Open) != api.MaxWorkers {
		t.Errorf("P7.4: %d steps, Cut %v, open %v", run.Steps, run.Cut, run.Open)
	}
}

// All asks 0, 1, 2 .., a line each: Made between its lines tells how far it has come.
func TestAllGoesInOrder(t *testing.T) {
	const n = 4
	for lines := range n + 1 {
		c := work([]api.Call{all()}, []api.Call{made()})
		c.Turns = append(make([]int, lines), 1)
		run, _ := wantModel(t, "P7.3: All", some(n, makes(6)), c)
		want := []int{0, 1, 2, 3}[:lines]
		if a := run.Answers[1][0]; !slices.Equal(a.Ints, want) || a.Own != 1 {
			t.Errorf("P7.3: Made behind %d of All's lines: %+v, want %v", lines, a, want)
		}
		if a := run.Answers[0][0]; a.Own != n || !slices.Equal(a.Ints, []int{6, 6, 6, 6}) {
			t.Errorf("P7.3: All: %+v", a)
		}
	}
}

// A Get between an All's lines calls a maker that All finds made then.
func TestGetsBetweenAllsLines(t *testing.T) {
	makers := []api.Maker{makes(4), falls(1, 5), makes(6)}
	for lines := range 4 {
		for i := range 3 {
			c := work([]api.Call{all(), all()}, []api.Call{place(i), made()})
			c.Turns = append(make([]int, lines), 1, 1)
			run, told := wantModel(t, "P7.3: All", makers, c)
			for _, a := range run.Answers[0] {
				if len(a.Ints) > 0 || a.Err != api.ErrLazyPanic || a.Own != 2 {
					t.Errorf("P7.3: Get(%d) behind %d of All's lines: %+v", i, lines, a)
				}
			}
			want := 0
			if i == 2 {
				want = 1
			}
			if told[0].Calls[2] != 1 || told[1].Calls[2] != 1 || told[2].Calls[2] != want {
				t.Errorf("P7.5: Get(%d) behind %d of All's lines: %v", i, lines, told)
			}
		}
	}
}

// An All that is stopped in its midst has asked what its lines asked, and no more.
func TestHaltsAndCutsInAnAll(t *testing.T) {
	const n = 4
	for own := 1; own <= n; own++ { // how many lines an All has
		for _, bad := range []bool{false, true} {
			makers := some(n, makes(8))
			if bad {
				makers[own-1] = fails(1, 8)
			} else if own < n {
				continue
			}
			for lines := 1; lines <= own; lines++ {
				for _, cut := range []bool{false, true} {
					wantStopped(t, makers, own, lines, cut)
				}
			}
		}
	}
}

// wantStopped stops an All of so many lines behind some of them.
func wantStopped(t *testing.T, makers []api.Maker, own, lines int, cut bool) {
	t.Helper()
	c := work([]api.Call{made(), all(), made()})
	c.Halt = []int{1 + lines}
	if cut {
		c.Halt, c.Until = nil, 1+lines
	}
	run, told := wantModel(t, "P7.4: All", makers, c)
	open, ended := []api.Open{{Worker: 0, Begin: 2, Own: lines}}, 1
	if lines == own {
		open, ended = nil, 2
	}
	if run.Cut != cut || run.Steps != 1+lines || !slices.Equal(run.Open, open) || len(run.Answers[0]) != ended {
		t.Errorf("P7.4: of %v an All stopped behind %d lines, cut %v: %+v", makers, lines, cut, run)
	}
	for i, m := range told {
		want := 0
		if i < lines {
			want = 1
		}
		if m.Calls != [3]int{0, 0, want} {
			t.Errorf("P7.4: of %v an All stopped behind %d lines: place %d: %v", makers, lines, i, m)
		}
	}
}

// Others find what a halted All made.
func TestBehindAHaltedAll(t *testing.T) {
	c := work([]api.Call{all()}, []api.Call{made(), place(1), place(2), made(), all()})
	c.Halt = []int{2}
	c.Turns = make([]int, 2)
	wantPlay(t, "P7.4: behind a halted All", some(3, makes(5)), c, api.Run{
		Answers: [][]api.Answer{nil, {
			{Begin: 3, End: 3, Own: 1, Ints: []int{0, 1}}, {Begin: 4, End: 4, Own: 1, N: 5}, {Begin: 5, End: 5, Own: 1, N: 5},
			{Begin: 6, End: 6, Own: 1, Ints: []int{0, 1, 2}}, {Begin: 7, End: 9, Own: 3, Ints: []int{5, 5, 5}},
		}},
		Open: []api.Open{{Worker: 0, Begin: 1, Own: 2}}, Steps: 9,
	}, slices.Repeat([]api.Made{{Calls: [3]int{0, 0, 1}, Done: [3]bool{false, false, true}, Values: [3]int{0, 0, 5}}}, 3))
}

func TestAgainstModel(t *testing.T) {
	alls, opens, cuts := 0, 0, 0
	errs := map[api.Errno]int{}
	mixedPlays(8000, true, func(x mixed) {
		run, _ := wantModel(t, "P7.4", x.makers, x.c)
		for k, answers := range run.Answers {
			for i, a := range answers {
				errs[a.Err]++
				if x.c.Work[k][i].Kind == 4 && len(a.Ints) > 1 {
					alls++
				}
			}
		}
		opens += len(run.Open)
		if run.Cut {
			cuts++
		}
	})
	if alls < 100 || opens < 100 || cuts < 100 || errs[api.ErrLazyCall] < 100 || errs[api.ErrLazyMaker] < 100 || errs[api.ErrLazyFail] < 100 || errs[api.ErrLazyPanic] < 100 {
		t.Errorf("the cases are too plain: %d Alls, %d open, %d cut, errors %v", alls, opens, cuts, errs)
	}
}

func TestSameEachTime(t *testing.T) {
	mixedPlays(300, true, func(x mixed) {
		run, made, err := lazy.Play(x.makers, x.c)
		for range 5 {
			again, then, e := lazy.Play(x.makers, x.c)
			if !sameRun(run, again) || !slices.Equal(made, then) || e != err {
				t.Fatalf("P7.4: %+v\nonce %+v %v %v\nthen %+v %v %v", x, run, made, err, again, then, e)
			}
		}
	})
}

// roomy copies a list into one with spare room, in which something stands.
func roomy[T any](list []T, rest T) []T {
	room := append(slices.Clone(list), rest, rest, rest)
	return room[:len(list)]
}

// untouched tells whether a roomy list is as it was.
func untouched[T comparable](list, was []T, rest T) bool {
	return slices.Equal(list, was) && slices.Equal(list[:len(list)+3][len(list):], []T{rest, rest, rest})
}

func TestPlayKeepsToItsOwnMemory(t *testing.T) {
	rest := falls(71, 72)
	mixedPlays(600, true, func(x mixed) {
		c, makers := plainCase(x.c), roomy(x.makers, rest)
		c.Turns, c.Halt = roomy(c.Turns, 71), roomy(c.Halt, 71)
		run, made, _ := lazy.Play(makers, c)
		if !untouched(c.Turns, x.c.Turns, 71) || !untouched(c.Halt, x.c.Halt, 71) || !untouched(makers, x.makers, rest) {
			t.Fatalf("P7.4: Play changed what was handed in: %v, %+v", makers, c)
		}
		keptRun, kept := plainRun(run), slices.Clone(made)
		writeOver(c.Turns)
		writeOver(c.Halt)
		for i := range makers[:cap(makers)] {
			makers[:cap(makers)][i] = falls(-99, -99)
		}
		for k := range c.Work {
			for i := range c.Work[k] {
				c.Work[k][i] = api.Call{Kind: -99}
			}
		}
		if !sameRun(run, keptRun) || !slices.Equal(made, kept) {
			t.Fatalf("P7.4: an answer hangs on what was handed in: %+v", x)
		}
		for i := range made[:cap(made)] {
			made[:cap(made)][i] = api.Made{Calls: [3]int{-99, -99, -99}}
		}
		for k, answers := range run.Answers {
			for i := range answers {
				writeOver(answers[i].Ints)
				answers[i].Ints = nil
				keptRun.Answers[k][i].Ints = nil
				if !sameRun(run, keptRun) {
					t.Fatalf("P7.4: two answers share memory: %+v", x)
				}
			}
		}
		again, then := newModel(x.makers).play(x.c)
		wantPlay(t, "P7.4: behind answers that were written over", x.makers, x.c, again, then)
	})
}

// leavesNothing tells that f leaves no goroutine behind.
func leavesNothing(t *testing.T, promise string, f func()) {
	t.Helper()
	before := runtime.NumGoroutine()
	f()
	for range 500 {
		if runtime.NumGoroutine() <= before {
			return
		}
		time.Sleep(time.Millisecond)
	}
	t.Errorf("%s: %d goroutines, %d ahead of it", promise, runtime.NumGoroutine(), before)
}

func TestPlayLeavesNothing(t *testing.T) {
	leavesNothing(t, "P7.4", func() {
		mixedPlays(200, true, func(x mixed) { lazy.Play(x.makers, x.c) })
	})
}
