package pool_test

import (
	"runtime"
	"slices"
	"testing"
	"time"

	"skein/api"
	"skein/pool"
)

func TestPlayRefuses(t *testing.T) {
	good, bad := work([]api.Call{take(1, 1, 1)}), api.Case{}
	refuses := func(n int, c api.Case, want api.Errno) {
		t.Helper()
		run, left, err := play(n, c)
		if err != want || !sameRun(run, api.Run{}) || !left.same(state{}) {
			t.Errorf("P10.4: Play(%d, %+v): %+v, %+v, %v, want %v", n, c, run, left, err, want)
		}
	}
	for _, n := range noSizes {
		refuses(n, good, api.ErrPoolMany)
		refuses(n, bad, api.ErrPoolMany)
	}
	for _, c := range []api.Case{
		bad,
		{Work: make([][]api.Call, 9)},
		work(nil, make([]api.Call, 65)),
		{Work: good.Work, Until: -1},
		{Work: good.Work, Until: lowest},
		{Work: good.Work, Until: api.MaxSteps + 1},
		{Work: good.Work, Until: highest},
	} {
		refuses(1, c, api.ErrCrewCase)
		refuses(4096, c, api.ErrCrewCase)
	}
}

func TestIdlePlay(t *testing.T) {
	for _, n := range []int{1, 2, 64, 65, 4095, 4096} {
		wantPlay(t, "P10.4: no calls", n, work(nil, nil), api.Run{Answers: [][]api.Answer{nil, nil}}, state{make([]api.Slot, n), upTo(n), 0})
	}
}

// own: an answer in so many lines.
func own(lines int, a api.Answer) api.Answer {
	a.Own = lines
	return a
}

// steps: a run of one worker, its answers one behind the other.
func steps(answers ...api.Answer) api.Run {
	at := 0
	for i := range answers {
		answers[i].Begin, answers[i].End = at+1, at+answers[i].Own
		at += answers[i].Own
	}
	return api.Run{Answers: [][]api.Answer{answers}, Steps: at}
}

func failed(err api.Errno) api.Answer { return own(1, api.Answer{Err: err}) }

// Each Kind: its answer's fields of a good handle, of one that is gone, of none.
func TestPlaysCalls(t *testing.T) {
	const gone = api.ErrPoolGone
	c := work([]api.Call{
		take(7, 8, 9), read(-1), mark(-1), casMark(-1, 0, 4), mark(-1), casMark(-1, 0, 5), link(-1), swapLink(-1, 6), link(-1), gens(), look(), give(-1),
		give(-1), read(-1), mark(-1), casMark(-1, poison, 5), link(-1), swapLink(-1, 6), back(1, 0), back(1, 1), take(1, 2, 3), take(4, 5, 6), take(0, 0, 0), look(), gens(),
	})
	wantPlay(t, "P10.4", 2, c, steps(
		own(3, api.Answer{N: word(1, 1)}), own(1, api.Answer{Ints: []int{7, 8, 0, 0}}), own(1, api.Answer{}), own(1, api.Answer{Ok: true}), own(1, api.Answer{N: 4}), own(1, api.Answer{}),
		own(1, api.Answer{N: 9}), own(1, api.Answer{N: 9}), own(1, api.Answer{N: 6}), own(2, api.Answer{Ints: []int{1, 4, 0, 0}}), own(3, api.Answer{Ints: []int{2}}), own(4, api.Answer{}),
		failed(gone), failed(gone), failed(gone), failed(gone), failed(gone), failed(gone), failed(gone), failed(api.ErrPoolHandle),
		own(3, api.Answer{N: word(1, 3)}), own(3, api.Answer{N: word(2, 1)}), failed(api.ErrPoolFull), own(2, api.Answer{}), own(2, api.Answer{Ints: []int{3, 0, 1, 0}}),
	), state{[]api.Slot{used(3, 1, 2, 3), used(1, 4, 5, 6)}, nil, 5})
	wantPlay(t, "P10.4: Back", 1, work([]api.Call{back(1, 0), take(1, 2, 3), gens()}), steps(
		own(4, api.Answer{}), own(3, api.Answer{N: word(1, 3)}), own(1, api.Answer{Ints: []int{3, 0}}),
	), state{[]api.Slot{used(3, 1, 2, 3)}, []int{1}, 0})
}

// named calls of every kind name a handle by the same rule.
func TestNames(t *testing.T) {
	const none, gone = api.ErrPoolHandle, api.ErrPoolGone
	ok := func(n int) api.Answer { return own(1, api.Answer{N: n}) }
	took := func(slot, gen int) api.Answer { return own(3, api.Answer{N: word(slot, gen)}) }
	all := func(t *testing.T, promise string, ahead []api.Call, answers []api.Answer, n int, name int, want api.Answer, left state) {
		t.Helper()
		wantPlay(t, promise, n, work(append(slices.Clone(ahead), link(name))), steps(append(slices.Clone(answers), want)...), left)
	}
	ahead := []api.Call{look(), take(1, 1, 11), take(2, 2, 12), take(3, 3, 13), read(-2)}
	answers := []api.Answer{own(4, api.Answer{Ints: []int{1, 2}}), took(1, 1), took(2, 1), failed(api.ErrPoolFull), own(1, api.Answer{Ints: []int{1, 1, 0, 0}})}
	left := state{[]api.Slot{used(1, 1, 1, 11), used(1, 2, 2, 12)}, nil, 0}
	all(t, "P10.4: no Take", ahead, answers, 2, -1, failed(none), left)
	all(t, "P10.4: a Take", ahead, answers, 2, -2, ok(11), left)
	all(t, "P10.4: another Take", ahead, answers, 2, -3, ok(12), left)
	all(t, "P10.4: a Take that didn't end well", ahead, answers, 2, -4, failed(none), left)
	all(t, "P10.4: a Read", ahead, answers, 2, -5, failed(none), left)
	for _, name := range []int{-6, -7, -64, -65, -1 << 32, -word(1, 1), lowest + 1, lowest} {
		all(t, "P10.4: a call that hasn't been", ahead, answers, 2, name, failed(none), left)
	}
	all(t, "P10.4: the number itself", ahead, answers, 2, word(2, 1), ok(12), left)
	for _, name := range []int{0, 1, 2, 3} {
		all(t, "P10.4: a number that isn't below 0", ahead, answers, 2, name, failed(none), left)
	}
	left.faults = 1
	all(t, "P10.4: the number itself", ahead, answers, 2, word(2, 3), failed(gone), left)
}

// Every call that is told a handle goes by names; Back's slot, and the numbers beside a handle, are what they are.
func TestNamesOfEveryCall(t *testing.T) {
	first := []api.Call{take(1, 2, 3), take(4, 5, 6)}
	took := []api.Answer{own(3, api.Answer{N: word(1, 1)}), own(3, api.Answer{N: word(2, 1)})}
	one, two := used(1, 1, 2, 3), used(1, 4, 5, 6)
	for _, x := range []struct {
		call api.Call
		want api.Answer
		two  api.Slot
		free []int
	}{
		{give(-2), own(4, api.Answer{}), given(2), []int{2}},
		{read(-2), own(1, api.Answer{Ints: []int{4, 5, 0, 0}}), two, nil},
		{mark(-2), own(1, api.Answer{}), two, nil},
		{casMark(-2, 0, -1), own(1, api.Answer{Ok: true}), api.Slot{Gen: 1, Node: two.Node, Mark: -1, Link: 6}, nil},
		{casMark(-2, -1, 5), own(1, api.Answer{}), two, nil},
		{link(-2), own(1, api.Answer{N: 6}), two, nil},
		{swapLink(-2, -1), own(1, api.Answer{N: 6}), used(1, 4, 5, -1), nil},
		{back(-2, 0), failed(api.ErrPoolHandle), two, nil},
		{back(2, -2), failed(api.ErrPoolHandle), two, nil},
	} {
		wantPlay(t, "P10.4: names", 2, work(append(slices.Clone(first), x.call)), steps(append(slices.Clone(took), x.want)...), state{[]api.Slot{one, x.two}, x.free, 0})
	}
	wantPlay(t, "P10.4: a Take has no names", 2, work([]api.Call{take(1, 2, 3), take(-1, -1, -1)}), steps(slices.Clone(took)...), state{[]api.Slot{one, used(1, -1, -1, -1)}, nil, 0})
}

// A worker's names are its own calls': another one's Takes aren't counted.
func TestNamesOfEachWorker(t *testing.T) {
	for workers := 2; workers <= api.MaxWorkers; workers++ {
		for k := range workers {
			c := api.Case{Work: make([][]api.Call, workers), Turns: []int{k, k, k}}
			for i := range c.Work {
				c.Work[i] = []api.Call{link(-1), look(), link(-2), link(-1)}
			}
			c.Work[k] = []api.Call{take(1, 2, 3), look(), link(-2), link(-1)}
			run, _ := wantModel(t, "P10.4: its own", 3, c)
			for i, answers := range run.Answers {
				if last := answers[3]; (last.Err == api.OK) != (i == k) || last.N != 0 && last.N != 3 || answers[2].Err != api.ErrPoolHandle {
					t.Errorf("P10.4: worker %d of %d, worker %d took: %+v", i, workers, k, answers)
				}
			}
		}
	}
}

// A name is told by the number of the call among all of the worker's, those that failed and those that can't be too; also of the last call that there may be.
func TestNamesAreCounted(t *testing.T) {
	for at := 1; at < api.MaxCalls; at++ {
		var calls []api.Call
		for i := range api.MaxCalls {
			calls = append(calls, []api.Call{{Kind: 11}, read(0), back(0, 0), mark(-1)}[i%4])
		}
		calls[at-1] = take(1, 2, 3)
		calls[api.MaxCalls-1] = link(-at)
		run, _ := wantModel(t, "P10.4: counted", 1, work(calls))
		if last := run.Answers[0][api.MaxCalls-1]; last.N != 3 || last.Err != api.OK {
			t.Errorf("P10.4: the name %d: %+v", -at, last)
		}
	}
	calls := slices.Repeat([]api.Call{take(1, 2, 3)}, api.MaxCalls)
	calls[api.MaxCalls-1] = link(-api.MaxCalls)
	if run, _ := wantModel(t, "P10.4: its own number", 64, work(calls)); run.Answers[0][63].Err != api.ErrPoolHandle {
		t.Errorf("P10.4: a call that names itself: %+v", run.Answers[0][63])
	}
}

func TestKindsThatCantBe(t *testing.T) {
	for _, kind := range []int{lowest, -10, -1, 0, 11, 12, 100, 1<<32 + 1, 1<<40 + 1, highest} {
		for _, a := range []int{lowest, -1, 0, 1, word(1, 1), highest} {
			call := api.Call{Kind: kind, A: a, B: 1, C: 2, Pairs: []api.Pair{{Key: 1, Value: 2}}}
			wantPlay(t, "P10.4: a Kind that can't be", 2, work([]api.Call{take(1, 2, 3), call, take(4, 5, 6)}), steps(
				own(3, api.Answer{N: word(1, 1)}), failed(api.ErrPoolCall), own(3, api.Answer{N: word(2, 1)}),
			), state{[]api.Slot{used(1, 1, 2, 3), used(1, 4, 5, 6)}, nil, 0})
		}
	}
}

// A call of no handle is a line without an access, and what comes behind it goes on.
func TestPlayOfNoHandle(t *testing.T) {
	for _, n := range []int{1, 2, 4096} {
		for _, h := range noHandles(n) {
			for _, c := range append(ofHandle(h), back(0, 0), back(n+1, 0), back(n, 1), back(n, -1)) {
				left := state{make([]api.Slot, n), upTo(n)[1:], 0}
				left.slots[0] = used(1, 1, 2, 3)
				wantPlay(t, "P10.4: no handle", n, work([]api.Call{c, take(1, 2, 3)}), steps(failed(api.ErrPoolHandle), own(3, api.Answer{N: word(1, 1)})), left)
			}
		}
	}
}

// What a call has no use for isn't looked at, nor answered.
func TestFieldsWithoutUse(t *testing.T) {
	rest := []api.Pair{{Key: 1, Value: 2}}
	var calls []api.Call
	for _, c := range []api.Call{
		take(1, 2, 3), {Kind: 3, A: -1, B: lowest, C: 9}, {Kind: 4, A: -1, B: -1, C: highest}, {Kind: 5, A: -1, B: 0, C: 7}, {Kind: 6, A: -1, B: -9, C: -1},
		{Kind: 7, A: -1, B: 5, C: -1}, {Kind: 8, A: lowest, B: -1, C: 3}, {Kind: 9, A: highest, B: -1, C: 3}, {Kind: 2, A: -1, B: -1, C: -1}, {Kind: 10, A: 1, B: 4, C: 2},
	} {
		c.Pairs = rest
		calls = append(calls, c)
	}
	wantPlay(t, "P10.4: fields", 1, work(calls), steps(
		own(3, api.Answer{N: word(1, 1)}), own(1, api.Answer{Ints: []int{1, 2, 0, 0}}), own(1, api.Answer{}), own(1, api.Answer{Ok: true}), own(1, api.Answer{N: 3}),
		own(1, api.Answer{N: 3}), own(1, api.Answer{Ints: []int{1, 7}}), own(2, api.Answer{}), own(4, api.Answer{}), failed(api.ErrPoolGone),
	), state{[]api.Slot{given(2)}, []int{1}, 0})
}

func TestGreatestCase(t *testing.T) {
	r := mixer(3)
	c := api.Case{Turns: []int{5, 3, 3, -1}}
	for range api.MaxWorkers {
		var calls []api.Call
		for i := range api.MaxCalls {
			call := r.call(50, i, true)
			if call.Kind == 8 || call.Kind == 9 {
				call.Kind = 1
			}
			calls = append(calls, call)
		}
		c.Work = append(c.Work, calls)
	}
	if run, _ := wantModel(t, "P10.4: the greatest case", api.MaxSlots, c); run.Cut {
		t.Error("P10.4: the greatest case is cut")
	}
	for k := range c.Work {
		for i := range c.Work[k] {
			c.Work[k][i] = gens()
		}
	}
	run, _ := wantModel(t, "P10.4: a case that is cut at its most steps", api.MaxSlots, c)
	if run.Steps != api.MaxSteps || !run.Cut || len(run.Open) != api.MaxWorkers {
		t.Errorf("P10.4: %d steps, Cut %v, open %v", run.Steps, run.Cut, run.Open)
	}
}

// stops: calls behind one Take over a pool of two, and how the pool is behind so many of their lines.
var stops = []struct {
	name  string
	call  api.Call
	lines []state
}{
	{"Take", take(4, 5, 6), []state{untaken, untaken, {[]api.Slot{firstSlot, used(1, 4, 5, 6)}, nil, 0}}},
	{"Give", give(-1), []state{half, half, half, {[]api.Slot{given(2), {}}, []int{1, 2}, 0}}},
	{"Read", read(-1), []state{untaken}},
	{"a Read of what isn't taken", read(word(2, 1)), []state{{untaken.slots, untaken.free, 1}}},
	{"SwapLink", swapLink(-1, 9), []state{{[]api.Slot{used(1, 1, 2, 9), {}}, []int{2}, 0}}},
	{"CasMark", casMark(-1, 0, 9), []state{{[]api.Slot{{Gen: 1, Node: firstSlot.Node, Mark: 9, Link: 3}, {}}, []int{2}, 0}}},
	{"Gens", gens(), []state{untaken, untaken}},
	{"Look", look(), []state{untaken, untaken, untaken}},
	{"Back", back(2, 0), []state{backed, backed, {backed.slots, []int{2}, 0}, {backed.slots, []int{2}, 0}}},
	{"a Back that is refused", back(2, 1), []state{untaken}},
	{"a Give of no handle", give(0), []state{untaken}},
	{"no call", api.Call{Kind: 11}, []state{untaken}},
}

var (
	firstSlot = used(1, 1, 2, 3)
	untaken   = state{[]api.Slot{firstSlot, {}}, []int{2}, 0}
	half      = state{[]api.Slot{given(2), {}}, []int{2}, 0}
	backed    = state{[]api.Slot{firstSlot, {Gen: 2}}, []int{2}, 0}
)

// A call that is stopped for good has done its lines and no more.
func TestHaltsAndCutsAtEveryLine(t *testing.T) {
	for _, x := range stops {
		for at := 1; at <= len(x.lines); at++ {
			for _, cut := range []bool{false, true} {
				c := work([]api.Call{take(1, 2, 3), x.call, take(7, 7, 7)})
				c.Halt = []int{3 + at}
				if cut {
					c.Halt, c.Until = nil, 3+at
				}
				run, left := wantModel(t, "P10.4: "+x.name, 2, c)
				open, ended := []api.Open{{Worker: 0, Begin: 4, Own: at}}, 1
				if at == len(x.lines) {
					open, ended = nil, 2
				}
				if run.Cut != cut || run.Steps != 3+at || !slices.Equal(run.Open, open) || len(run.Answers[0]) != ended || !left.same(x.lines[at-1]) {
					t.Errorf("P10.4: %s, stopped behind %d lines, cut %v: %+v, %+v", x.name, at, cut, run, left)
				}
			}
		}
	}
}

// Behind a worker that was halted in the midst, also in its second round, the others do all their calls, and none of them goes round.
func TestOthersGoOnBehindAHalt(t *testing.T) {
	for _, call := range []api.Call{take(4, 5, 6), give(-1), look(), back(4, 0)} {
		for halt := 1; halt <= 9; halt++ {
			c := work([]api.Call{take(1, 2, 3), call}, []api.Call{take(7, 8, 9), give(-1), look(), take(7, 8, 9), read(-4), give(-4)})
			c.Turns = slices.Concat(make([]int, 3+min(halt, 2)), []int{1, 1, 1}, make([]int, halt-min(halt, 2)))
			c.Halt = []int{3 + halt}
			run, _ := wantModel(t, "P10.6: behind a halt", 4, c)
			if run.Cut || len(run.Answers[1]) != 6 {
				t.Fatalf("P10.6: %+v halted behind %d lines: %+v", call, halt, run)
			}
			for i, lines := range []int{3, 4, 6, 3, 1, 4} {
				if a := run.Answers[1][i]; a.Err != api.OK || a.Own > lines {
					t.Errorf("P10.6: %+v halted behind %d lines: %+v", call, halt, a)
				}
			}
		}
	}
}

func TestAgainstModel(t *testing.T) {
	takes, gives, looks, opens, cuts, faults, even := 0, 0, 0, 0, 0, 0, 0
	errs := map[api.Errno]int{}
	mixedPlays(8000, true, func(x mixed) {
		run, left := wantModel(t, "P10.4", x.n, x.c)
		for k, answers := range run.Answers {
			for i, a := range answers {
				errs[a.Err]++
				switch kind := x.c.Work[k][i].Kind; {
				case kind == 1 && a.Own > 3:
					takes++
				case (kind == 2 || kind == 10) && a.Own > 4:
					gives++
				case kind == 9 && a.Own > len(a.Ints)+2:
					looks++
				case kind == 1 && a.N%2 == 0 && a.Err == api.OK:
					even++
				}
			}
		}
		opens += len(run.Open)
		faults += left.faults
		if run.Cut {
			cuts++
		}
	})
	for _, err := range []api.Errno{api.ErrPoolCall, api.ErrPoolFull, api.ErrPoolHandle, api.ErrPoolGone} {
		if errs[err] < 100 {
			t.Errorf("the cases are too plain: %v comes %d times", err, errs[err])
		}
	}
	for i, n := range []int{takes, gives, looks, opens, cuts, faults, even} {
		if n < 100 {
			t.Errorf("the cases are too plain: count %d is %d", i, n)
		}
	}
}

// Every order of the lines of few calls, a Back that spoils among them.
func TestEveryOrder(t *testing.T) {
	h := word(1, 1)
	for _, calls := range [][][]api.Call{
		{{take(1, 2, 3), give(-1)}, {take(4, 5, 6), give(-1)}},
		{{take(1, 2, 3), give(-1)}, {read(h), give(h), take(4, 5, 6)}},
		{{take(1, 2, 3), casMark(-1, 0, 5), give(-1)}, {casMark(h, 0, 6), swapLink(h, 7), mark(h), link(h), gens()}},
		{{take(1, 2, 3), give(-1)}, {back(1, 2), back(1, 0), take(4, 5, 6)}},
		{{take(1, 2, 3), give(-1)}, {look(), gens(), look()}},
	} {
		for n := 1; n <= 2; n++ {
			orders(2, 10, func(turns []int) {
				wantModel(t, "P10.2: every order", n, api.Case{Work: calls, Turns: turns})
			})
		}
	}
	orders(3, 6, func(turns []int) {
		calls := [][]api.Call{{take(1, 2, 3), give(-1)}, {take(4, 5, 6), give(-1)}, {give(h), back(1, 2)}}
		wantModel(t, "P10.2: every order", 2, api.Case{Work: calls, Turns: turns})
	})
}

func TestSameEachTime(t *testing.T) {
	mixedPlays(300, true, func(x mixed) {
		run, left, err := play(x.n, x.c)
		for range 5 {
			again, then, e := play(x.n, x.c)
			if !sameRun(run, again) || !left.same(then) || e != err {
				t.Fatalf("P10.4: %+v\nonce %+v %+v %v\nthen %+v %+v %v", x, run, left, err, again, then, e)
			}
		}
	})
}

// roomy copies a list into one with spare room, in which something stands.
func roomy(list []int) []int {
	room := append(slices.Clone(list), 71, 72, 73)
	return room[:len(list)]
}

// untouched tells whether a roomy list is as it was.
func untouched(list, was []int) bool {
	return slices.Equal(list, was) && slices.Equal(list[:len(list)+3][len(list):], []int{71, 72, 73})
}

func TestPlayKeepsToItsOwnMemory(t *testing.T) {
	mixedPlays(600, true, func(x mixed) {
		c := plainCase(x.c)
		c.Turns, c.Halt = roomy(c.Turns), roomy(c.Halt)
		run, left, _ := play(x.n, c)
		if !untouched(c.Turns, x.c.Turns) || !untouched(c.Halt, x.c.Halt) {
			t.Fatalf("rule 3: Play changed what was handed in: %+v", c)
		}
		for k := range c.Work {
			for i, call := range c.Work[k] {
				if was := x.c.Work[k][i]; call.Kind != was.Kind || call.A != was.A || call.B != was.B || call.C != was.C {
					t.Fatalf("rule 3: Play changed a call: %+v, was %+v", call, was)
				}
				c.Work[k][i] = api.Call{Kind: -99}
			}
		}
		keptRun, kept := plainRun(run), state{slices.Clone(left.slots), slices.Clone(left.free), left.faults}
		writeOver(c.Turns)
		writeOver(c.Halt)
		if !sameRun(run, keptRun) || !left.same(kept) {
			t.Fatalf("rule 3: an answer hangs on what was handed in: %+v", x)
		}
		writeOver(left.free)
		writeOverSlots(left.slots)
		for k, answers := range run.Answers {
			for i := range answers {
				writeOver(answers[i].Ints)
				answers[i].Ints = nil
				keptRun.Answers[k][i].Ints = nil
				if !sameRun(run, keptRun) {
					t.Fatalf("rule 3: two lists of an answer share memory: %+v", x)
				}
			}
		}
		wantModel(t, "rule 3: behind answers that were written over", x.n, x.c)
	})
}

// leavesNothing tells that f leaves no goroutine behind.
func leavesNothing(t *testing.T, promise string, f func()) {
	t.Helper()
	before := runtime.NumGoroutine()
	f()
	for range 500 {
		if runtime.NumGoroutine() <= before {
			return
		}
		time.Sleep(time.Millisecond)
	}
	t.Errorf("%s: %d goroutines, %d ahead of it", promise, runtime.NumGoroutine(), before)
}

func TestPlayLeavesNothing(t *testing.T) {
	leavesNothing(t, "P10.4", func() {
		mixedPlays(200, true, func(x mixed) { pool.Play(x.n, x.c) })
	})
}
