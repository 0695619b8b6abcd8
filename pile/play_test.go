package pile_test

import (
	"runtime"
	"slices"
	"testing"
	"time"

	"skein/api"
	"skein/pile"
)

func TestPlayRefuses(t *testing.T) {
	good, bad := work([]api.Call{pop()}), api.Case{}
	refuses := func(n, tag int, c api.Case, want api.Errno) {
		t.Helper()
		run, places, head, err := pile.Play(n, tag, c)
		if err != want || !sameRun(run, api.Run{}) || len(places) > 0 || head != 0 {
			t.Errorf("P8.3: Play(%d, %d, %+v): %+v, %v, %d, %v, want %v", n, tag, c, run, places, head, err, want)
		}
	}
	for _, c := range []api.Case{good, bad} {
		for _, n := range noSizes {
			refuses(n, 0, c, api.ErrPileMany)
			refuses(n, -1, c, api.ErrPileMany)
		}
		for _, tag := range noTags {
			refuses(1, tag, c, api.ErrPileMany)
			refuses(4096, tag, c, api.ErrPileMany)
		}
	}
	for _, c := range []api.Case{
		bad,
		{Work: make([][]api.Call, 9)},
		work(nil, make([]api.Call, 65)),
		{Work: good.Work, Until: -1},
		{Work: good.Work, Until: lowest},
		{Work: good.Work, Until: api.MaxSteps + 1},
		{Work: good.Work, Until: highest},
	} {
		refuses(1, 0, c, api.ErrCrewCase)
		refuses(4096, maxTag, c, api.ErrCrewCase)
	}
}

func TestIdlePlay(t *testing.T) {
	for _, n := range []int{1, 2, 64, 65, 4095, 4096} {
		for _, tag := range []int{0, 1, maxTag} {
			wantPlay(t, "P8.3: no calls", n, tag, work(nil, nil), api.Run{Answers: [][]api.Answer{nil, nil}}, upTo(n), top{1, tag}.word())
		}
	}
}

// step: an answer in one round's lines, from a step on.
func step(begin, own int, a api.Answer) api.Answer {
	a.Begin, a.End, a.Own = begin, begin+own-1, own
	return a
}

func TestPlaysCalls(t *testing.T) {
	c := work([]api.Call{look(), pop(), pop(), pop(), look(), back(), push(1), look(), back()})
	wantPlay(t, "P8.3", 2, maxTag, c, api.Run{Steps: 24, Answers: [][]api.Answer{{
		step(1, 4, api.Answer{Ints: []int{1, 2}}),
		step(5, 3, api.Answer{N: 1}),
		step(8, 3, api.Answer{N: 2}),
		step(11, 1, api.Answer{Err: api.ErrPileEmpty}),
		step(12, 2, api.Answer{}),
		step(14, 3, api.Answer{}),
		step(17, 3, api.Answer{}),
		step(20, 4, api.Answer{Ints: []int{1, 2}}),
		step(24, 1, api.Answer{Err: api.ErrPilePlace}),
	}}}, []int{1, 2}, top{1, 3}.word())
}

// wantErrs plays one worker's calls over a pile and asks for their errors, and for what is left.
func wantErrs(t *testing.T, promise string, n int, calls []api.Call, places []int, errs ...api.Errno) {
	t.Helper()
	run, left, _ := wantModel(t, promise, n, 0, work(calls))
	var got []api.Errno
	for i, a := range run.Answers[0] {
		got = append(got, a.Err)
		if calls[i].Kind == 3 && a.Err != api.OK && a.Own != 1 {
			t.Errorf("%s: a call 3 with nothing to push does %d lines", promise, a.Own)
		}
	}
	if !slices.Equal(got, errs) || !slices.Equal(left, places) {
		t.Errorf("%s: %v: %v, %v, want %v, %v", promise, calls, got, left, errs, places)
	}
}

func TestCallThree(t *testing.T) {
	const none = api.ErrPilePlace
	wantErrs(t, "P8.3: nothing was popped", 3, []api.Call{back(), back()}, []int{1, 2, 3}, none, none)
	wantErrs(t, "P8.3: once", 3, []api.Call{pop(), back()}, []int{1, 2, 3}, 0, 0)
	wantErrs(t, "P8.3: twice", 3, []api.Call{pop(), back(), back()}, []int{1, 2, 3}, 0, 0, none)
	wantErrs(t, "P8.3: popped again", 3, []api.Call{pop(), back(), pop(), back(), back()}, []int{1, 2, 3}, 0, 0, 0, 0, none)
	wantErrs(t, "P8.3: the last one alone", 3, []api.Call{pop(), pop(), back(), back()}, []int{2, 3}, 0, 0, 0, none)
	wantErrs(t, "P8.3: behind a Pop that failed", 1, []api.Call{pop(), pop(), back(), back()}, []int{1}, 0, api.ErrPileEmpty, 0, none)
	wantErrs(t, "P8.3: a Pop that failed behind it", 1, []api.Call{pop(), push(1), pop(), back(), pop(), pop(), back()}, []int{1}, 0, 0, 0, 0, 0, api.ErrPileEmpty, 0)
	wantErrs(t, "P8.3: a Pop that failed gives nothing back", 1, []api.Call{pop(), back(), pop(), back(), pop(), back(), pop()}, nil, 0, 0, 0, 0, 0, 0, 0)
	wantErrs(t, "P8.3: behind a Push by a call 2", 3, []api.Call{pop(), push(1), back(), back()}, []int{1}, 0, 0, 0, none)
	wantErrs(t, "P8.3: behind a Push of another one", 3, []api.Call{pop(), pop(), push(1), back(), back()}, []int{2, 1, 3}, 0, 0, 0, 0, none)
	wantErrs(t, "P8.3: behind a Push that is refused", 3, []api.Call{pop(), push(0), back(), push(4), back()}, []int{1, 2, 3}, 0, none, 0, none, none)
	wantErrs(t, "P8.3: behind a Look and a Kind that can't be", 3, []api.Call{pop(), look(), {Kind: 9}, back(), look()}, []int{1, 2, 3}, 0, 0, api.ErrPileCall, 0, 0)
	wantErrs(t, "P8.3: a call 2 gives nothing to push", 3, []api.Call{push(2), back()}, []int{2, 1}, 0, none)
	wantErrs(t, "P8.3: in a ring", 3, []api.Call{push(1), pop(), back(), back(), pop(), pop(), back()}, []int{1}, 0, 0, 0, none, 0, 0, 0)
}

// What one worker popped isn't another one's to push back, nor does another one's call 3 use it up.
func TestCallThreeOfEachWorker(t *testing.T) {
	for workers := 2; workers <= api.MaxWorkers; workers++ {
		for k := range workers {
			c := api.Case{Work: make([][]api.Call, workers)}
			c.Turns = slices.Repeat([]int{k}, 3)
			for i := range c.Work {
				c.Work[i] = []api.Call{back()}
			}
			c.Work[k] = []api.Call{pop(), look(), back()}
			run, places, _ := wantModel(t, "P8.3: its own", 3, 0, c)
			for i, answers := range run.Answers {
				if last := answers[len(answers)-1]; (last.Err == api.ErrPilePlace) != (i != k) {
					t.Errorf("P8.3: worker %d of %d, worker %d popped: %+v", i, workers, k, last)
				}
			}
			if !slices.Equal(places, []int{1, 2, 3}) {
				t.Errorf("P8.3: worker %d popped and pushed: %v", k, places)
			}
		}
	}
}

func TestKindsThatCantBe(t *testing.T) {
	refused := api.Answer{Begin: 1, End: 1, Own: 1, Err: api.ErrPileCall}
	for _, kind := range []int{lowest, -4, -1, 0, 5, 6, 100, 1<<32 + 1, 1<<40 + 1, highest} {
		for _, a := range []int{lowest, -1, 0, 1, 2, 3, highest} {
			call := api.Call{Kind: kind, A: a, B: 1, C: 2, Pairs: []api.Pair{{Key: 1, Value: 2}}}
			wantPlay(t, "P8.3: a Kind that can't be", 2, 5, work([]api.Call{call}), api.Run{Steps: 1, Answers: [][]api.Answer{{refused}}}, []int{1, 2}, top{1, 5}.word())
		}
	}
	wantPlay(t, "P8.3: behind a Kind that can't be", 2, 0, work([]api.Call{{Kind: 5}, pop()}), api.Run{Steps: 4, Answers: [][]api.Answer{
		{refused, step(2, 3, api.Answer{N: 1})},
	}}, []int{2}, top{2, 1}.word())
}

// A Push of no place is a line without an access, and what comes behind it goes on.
func TestPlayOfNoPlace(t *testing.T) {
	for _, n := range []int{1, 2, 4096} {
		for _, i := range noPlaces(n) {
			wantPlay(t, "P8.3: no place", n, 0, work([]api.Call{push(i), pop()}), api.Run{Steps: 4, Answers: [][]api.Answer{
				{step(1, 1, api.Answer{Err: api.ErrPilePlace}), step(2, 3, api.Answer{N: 1})},
			}}, upTo(n)[1:], top{2 % (n + 1), 1}.word())
		}
	}
}

func TestLastPlace(t *testing.T) {
	for _, n := range []int{1, 2, 64, 65, 4095, 4096} {
		wantModel(t, "P8.2: the last place", n, 0, work([]api.Call{push(n), pop(), pop(), back()}))
		wantModel(t, "P8.2: the last place", n, maxTag, work([]api.Call{pop(), push(n), pop(), pop(), look()}))
	}
}

// What a call has no use for isn't looked at, nor answered.
func TestFieldsWithoutUse(t *testing.T) {
	rest := []api.Pair{{Key: 1, Value: 2}}
	c := work([]api.Call{
		{Kind: 1, A: -1, B: 9, C: 9, Pairs: rest},
		{Kind: 4, A: 99, B: -9, C: 9, Pairs: rest},
		{Kind: 3, A: 2, B: lowest, C: highest, Pairs: rest},
		{Kind: 2, A: 2, B: -9, C: 9, Pairs: rest},
	})
	wantPlay(t, "P8.3: fields", 2, 0, c, api.Run{Steps: 12, Answers: [][]api.Answer{{
		step(1, 3, api.Answer{N: 1}), step(4, 3, api.Answer{Ints: []int{2}}), step(7, 3, api.Answer{}), step(10, 3, api.Answer{}),
	}}}, []int{2, 1}, top{2, 3}.word())
}

func TestGreatestCase(t *testing.T) {
	r := mixer(3)
	c := api.Case{Turns: []int{5, 3, 3, -1}}
	for range api.MaxWorkers {
		var calls []api.Call
		for range api.MaxCalls {
			call := r.call(50, true)
			if call.Kind == 4 {
				call.Kind = 1
			}
			calls = append(calls, call)
		}
		c.Work = append(c.Work, calls)
	}
	if run, _, _ := wantModel(t, "P8.3: the greatest case", api.MaxSlots, maxTag-100, c); run.Cut {
		t.Error("P8.3: the greatest case is cut")
	}
	for k := range c.Work {
		for i := range c.Work[k] {
			c.Work[k][i] = look()
		}
	}
	run, _, _ := wantModel(t, "P8.3: a case that is cut at its most steps", api.MaxSlots, 0, c)
	if run.Steps != api.MaxSteps || !run.Cut || len(run.Open) != api.MaxWorkers {
		t.Errorf("P8.3: %d steps, Cut %v, open %v", run.Steps, run.Cut, run.Open)
	}
}

// stops: calls of three lines, one line and five, what comes ahead of them, and how the pile is with and without them.
var stops = []struct {
	name          string
	first         []api.Call
	ahead         int // lines of first
	call          api.Call
	lines         int
	without, with []int
}{
	{"Pop", []api.Call{pop()}, 3, pop(), 3, []int{2, 3}, []int{3}},
	{"Push", []api.Call{pop(), pop()}, 6, push(1), 3, []int{3}, []int{1, 3}},
	{"call 3", []api.Call{pop(), pop()}, 6, back(), 3, []int{3}, []int{2, 3}},
	{"Look", []api.Call{pop(), back()}, 6, look(), 5, []int{1, 2, 3}, []int{1, 2, 3}},
	{"Pop of nothing", []api.Call{pop(), pop(), pop()}, 9, pop(), 1, nil, nil},
	{"a refused Push", nil, 0, push(0), 1, []int{1, 2, 3}, []int{1, 2, 3}},
	{"a refused call 3", nil, 0, back(), 1, []int{1, 2, 3}, []int{1, 2, 3}},
	{"no call", nil, 0, api.Call{Kind: 5}, 1, []int{1, 2, 3}, []int{1, 2, 3}},
}

// A call that is stopped for good has done its lines and no more; others don't wait for it.
func TestHaltsAndCutsAtEveryLine(t *testing.T) {
	for _, x := range stops {
		for lines := 1; lines <= x.lines; lines++ {
			for _, cut := range []bool{false, true} {
				c := work(append(slices.Clone(x.first), x.call, pop()))
				c.Halt = []int{x.ahead + lines}
				if cut {
					c.Halt, c.Until = nil, x.ahead+lines
				}
				run, places, _ := wantModel(t, "P8.3: "+x.name, 3, 0, c)
				open, ended, want := []api.Open{{Worker: 0, Begin: x.ahead + 1, Own: lines}}, len(x.first), x.without
				if lines == x.lines {
					open, ended, want = nil, len(x.first)+1, x.with
				}
				if run.Cut != cut || run.Steps != x.ahead+lines || !slices.Equal(run.Open, open) || len(run.Answers[0]) != ended || !slices.Equal(places, want) {
					t.Errorf("P8.3: %s, stopped behind %d lines, cut %v: %+v, %v", x.name, lines, cut, run, places)
				}
			}
		}
	}
}

// Behind a worker that was halted in the midst, also in its second round, the others do all their calls, and none of them goes round.
func TestOthersGoOnBehindAHalt(t *testing.T) {
	for _, call := range []api.Call{pop(), back(), look()} {
		for halt := 1; halt <= 9; halt++ {
			c := work([]api.Call{pop(), call}, []api.Call{pop(), back(), look(), pop(), back()})
			c.Turns = slices.Concat(make([]int, 3+min(halt, 2)), []int{1, 1, 1}, make([]int, halt-min(halt, 2)))
			c.Halt = []int{3 + halt}
			run, _, _ := wantModel(t, "P8.5: behind a halt", 4, 0, c)
			if run.Cut || len(run.Answers[1]) != 5 {
				t.Fatalf("P8.5: %+v halted behind %d lines: %+v", call, halt, run)
			}
			for i, a := range run.Answers[1] {
				if a.Err != api.OK || a.Own > 3 && c.Work[1][i].Kind != 4 || a.Own > 2+len(a.Ints) && c.Work[1][i].Kind == 4 {
					t.Errorf("P8.5: %+v halted behind %d lines: %+v", call, halt, a)
				}
			}
		}
	}
}

func TestAgainstModel(t *testing.T) {
	rounds, looks, opens, cuts := 0, 0, 0, 0
	errs := map[api.Errno]int{}
	mixedPlays(8000, true, func(x mixed) {
		run, places, _ := wantModel(t, "P8.3", x.n, x.tag, x.c)
		for k, answers := range run.Answers {
			for i, a := range answers {
				errs[a.Err]++
				switch kind := x.c.Work[k][i].Kind; {
				case kind < 4 && a.Own > 3:
					rounds++
				case kind == 4 && a.Own > len(a.Ints)+2:
					looks++
				}
			}
		}
		opens += len(run.Open)
		if run.Cut {
			cuts++
		}
		if len(places) > x.n {
			t.Fatalf("P8.1: %+v: Places %v", x, places)
		}
	})
	for _, err := range []api.Errno{api.ErrPileCall, api.ErrPilePlace, api.ErrPileEmpty} {
		if errs[err] < 100 {
			t.Errorf("the cases are too plain: %v comes %d times", err, errs[err])
		}
	}
	if rounds < 100 || looks < 100 || opens < 100 || cuts < 100 {
		t.Errorf("the cases are too plain: %d went round, %d Looks, %d open, %d cut", rounds, looks, opens, cuts)
	}
}

// Every order of few calls' lines, also of such as spoil the pile.
func TestEveryOrderAgainstModel(t *testing.T) {
	for _, calls := range [][][]api.Call{
		{{pop(), back()}, {pop(), pop(), push(1)}},
		{{push(1)}, {push(1), pop(), pop()}},
		{{push(2), pop()}, {pop(), push(2)}},
		{{look()}, {pop(), back(), push(2)}},
		{{look(), pop()}, {push(1), push(3)}},
	} {
		orders(2, 11, func(turns []int) {
			wantModel(t, "P8.2: every order", 3, 0, api.Case{Work: calls, Turns: turns})
		})
	}
}

func TestSameEachTime(t *testing.T) {
	mixedPlays(300, true, func(x mixed) {
		run, places, head, err := pile.Play(x.n, x.tag, x.c)
		for range 5 {
			again, then, h, e := pile.Play(x.n, x.tag, x.c)
			if !sameRun(run, again) || !slices.Equal(places, then) || h != head || e != err {
				t.Fatalf("P8.3: %+v\nonce %+v %v %d %v\nthen %+v %v %d %v", x, run, places, head, err, again, then, h, e)
			}
		}
	})
}

// roomy copies a list into one with spare room, in which something stands.
func roomy(list []int) []int {
	room := append(slices.Clone(list), 71, 72, 73)
	return room[:len(list)]
}

// untouched tells whether a roomy list is as it was.
func untouched(list, was []int) bool {
	return slices.Equal(list, was) && slices.Equal(list[:len(list)+3][len(list):], []int{71, 72, 73})
}

func TestPlayKeepsToItsOwnMemory(t *testing.T) {
	mixedPlays(600, true, func(x mixed) {
		c := plainCase(x.c)
		c.Turns, c.Halt = roomy(c.Turns), roomy(c.Halt)
		run, places, head, _ := pile.Play(x.n, x.tag, c)
		if !untouched(c.Turns, x.c.Turns) || !untouched(c.Halt, x.c.Halt) {
			t.Fatalf("rule 3: Play changed what was handed in: %+v", c)
		}
		for k := range c.Work {
			for i, call := range c.Work[k] {
				if was := x.c.Work[k][i]; call.Kind != was.Kind || call.A != was.A || call.B != was.B || call.C != was.C {
					t.Fatalf("rule 3: Play changed a call: %+v, was %+v", call, was)
				}
				c.Work[k][i] = api.Call{Kind: -99}
			}
		}
		keptRun, kept := plainRun(run), slices.Clone(places)
		writeOver(c.Turns)
		writeOver(c.Halt)
		if !sameRun(run, keptRun) || !slices.Equal(places, kept) {
			t.Fatalf("rule 3: an answer hangs on what was handed in: %+v", x)
		}
		writeOver(places)
		for k, answers := range run.Answers {
			for i := range answers {
				writeOver(answers[i].Ints)
				answers[i].Ints = nil
				keptRun.Answers[k][i].Ints = nil
				if !sameRun(run, keptRun) {
					t.Fatalf("rule 3: two lists of an answer share memory: %+v", x)
				}
			}
		}
		again, then, h := newModel(x.n, x.tag).play(x.c)
		if h != head {
			t.Fatalf("P8.3: %+v: Head %d, want %d", x, head, h)
		}
		wantPlay(t, "rule 3: behind answers that were written over", x.n, x.tag, x.c, again, then, h)
	})
}

// leavesNothing tells that f leaves no goroutine behind.
func leavesNothing(t *testing.T, promise string, f func()) {
	t.Helper()
	before := runtime.NumGoroutine()
	f()
	for range 500 {
		if runtime.NumGoroutine() <= before {
			return
		}
		time.Sleep(time.Millisecond)
	}
	t.Errorf("%s: %d goroutines, %d ahead of it", promise, runtime.NumGoroutine(), before)
}

func TestPlayLeavesNothing(t *testing.T) {
	leavesNothing(t, "P8.3", func() {
		mixedPlays(200, true, func(x mixed) { pile.Play(x.n, x.tag, x.c) })
	})
}
