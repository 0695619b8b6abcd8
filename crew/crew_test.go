package crew_test

import (
	"errors"
	"math"
	"runtime"
	"slices"
	"sync/atomic"
	"testing"
	"time"

	"skein/api"
	"skein/crew"
)

func work(lists ...[]api.Call) api.Case { return api.Case{Work: lists} }

// lots tells so many calls that are like this one.
func lots(count int, c api.Call) []api.Call {
	list := make([]api.Call, count)
	for i := range list {
		list[i] = c
	}
	return list
}

// steps asks for Kind steps and answers A.
var steps = does(func(w *crew.Worker, c api.Call) api.Answer {
	for range c.Kind {
		w.Step()
	}
	return api.Answer{N: c.A}
})

func TestExamples(t *testing.T) {
	c := work([]api.Call{{Kind: 1, A: 2}, {Kind: 2, A: 5}}, []api.Call{{Kind: 2, A: 7}})
	c.Turns = []int{1, 0, 0, 0}
	first := api.Answer{Begin: 2, End: 3, Own: 2, Ok: true, N: 2}
	add := api.Answer{Begin: 1, End: 1, Own: 1, Ok: true}
	wantDrill(t, "P3.5: example 1", c, api.Run{Steps: 4, Answers: [][]api.Answer{
		{first, {Begin: 4, End: 4, Own: 1, Ok: true, N: 7}}, {add},
	}})
	c.Halt = []int{2, 0}
	wantDrill(t, "P3.5: example 2", c, api.Run{Steps: 3, Answers: [][]api.Answer{{first}, {add}}})
	c.Until = 2
	wantDrill(t, "P3.5: example 2, Until 2", c, api.Run{
		Steps: 2, Cut: true, Answers: [][]api.Answer{{}, {add}}, Open: []api.Open{{Worker: 0, Begin: 2, Own: 1}},
	})
	wantDrill(t, "P3.5: example 3", work([]api.Call{{Kind: 3, A: 1}, {Kind: 2, A: 1}}), api.Run{
		Steps: 1, Answers: [][]api.Answer{{{Begin: 1, End: 1, Own: 1, Err: api.ErrCrewFell}}},
	})
	if r, err := crew.Drill(api.Case{}); err != api.ErrCrewCase || !same(r, api.Run{}) {
		t.Errorf("P3.5: example 4: %+v %v", r, err)
	}
	c = work([]api.Call{{Kind: 2, A: 5}, {Kind: 3, A: 1}, {Kind: 2, A: 100}}, []api.Call{{Kind: 2, A: 7}})
	if n, err := crew.Rush(c); n != 12 || err != api.OK {
		t.Errorf("P3.8: example 4: %d %v", n, err)
	}
}

func TestNilWorker(t *testing.T) {
	var w *crew.Worker
	for range 3 {
		w.Step()
		if w.Number() != 0 {
			t.Fatal("P3.1: Number of nil")
		}
	}
}

func TestStepsGoByTurns(t *testing.T) {
	c := work(
		[]api.Call{{Kind: 2, A: 1}, {Kind: 1, A: 2}},
		[]api.Call{{Kind: 3, A: 3}},
		[]api.Call{{Kind: 1, A: 4}, {Kind: 2, A: 5}},
	)
	c.Turns = []int{2, -1, 0, 4, 1, 1}
	type line struct{ worker, call, line int }
	var done []line // without a lock: two lines at once would be a race
	do := does(func(w *crew.Worker, call api.Call) api.Answer {
		for i := range call.Kind {
			w.Step()
			done = append(done, line{w.Number(), call.A, i})
		}
		return api.Answer{N: call.A}
	})
	want := []line{{2, 4, 0}, {2, 5, 0}, {0, 1, 0}, {1, 3, 0}, {1, 3, 1}, {1, 3, 2}, {2, 5, 1}, {0, 1, 1}, {0, 2, 0}}
	for range 20 {
		done = nil
		r, err := crew.Run(c, do)
		if err != api.OK || r.Steps != 9 || !slices.Equal(done, want) {
			t.Fatalf("P3.1: %v\nwant %v\n%+v %v", done, want, r, err)
		}
	}
}

// endless goes round for ever; it tells how often it came behind a Step.
func endless(count *int) does {
	return func(w *crew.Worker, c api.Call) api.Answer {
		for {
			w.Step()
			*count++
		}
	}
}

func TestStepDoesNotComeBack(t *testing.T) {
	for _, until := range []int{1, 2, 99, 19999, 20000} {
		count := 0
		c := work([]api.Call{{}})
		c.Until = until
		wantRun(t, "P3.1: Until", c, endless(&count), api.Run{
			Steps: until, Cut: true, Answers: [][]api.Answer{{}}, Open: []api.Open{{Begin: 1, Own: until}},
		})
		if count != until {
			t.Errorf("P3.1: Until %d: %d lines were done", until, count)
		}
	}
	count := 0
	c := work([]api.Call{{}}, []api.Call{{}})
	c.Halt = []int{3, 5}
	wantRun(t, "P3.1: Halt", c, endless(&count), api.Run{
		Steps: 8, Answers: [][]api.Answer{{}, {}}, Open: []api.Open{{Worker: 0, Begin: 1, Own: 3}, {Worker: 1, Begin: 2, Own: 5}},
	})
	if count != 8 {
		t.Errorf("P3.1: Halt: %d lines were done", count)
	}
}

func TestUntilNothingIsTheLimit(t *testing.T) {
	count := 0
	wantRun(t, "P3.3: Until 0", work([]api.Call{{}}, nil), endless(&count), api.Run{
		Steps: api.MaxSteps, Cut: true, Answers: [][]api.Answer{{}, {}}, Open: []api.Open{{Begin: 1, Own: api.MaxSteps}},
	})
}

// stubborn catches the panic by which it is to leave, asks again, and answers at last.
func stubborn(came *int) does {
	return func(w *crew.Worker, c api.Call) api.Answer {
		for range 5 {
			func() {
				defer func() { recover() }()
				w.Step()
				*came++
			}()
		}
		return api.Answer{Ok: true}
	}
}

func TestCaughtLeave(t *testing.T) {
	came := 0
	c := work([]api.Call{{}, {}}, []api.Call{{}})
	c.Halt = []int{2, 3}
	wantRun(t, "P3.1: caught", c, stubborn(&came), api.Run{
		Steps: 5, Answers: [][]api.Answer{{}, {}}, Open: []api.Open{{Worker: 0, Begin: 1, Own: 2}, {Worker: 1, Begin: 2, Own: 3}},
	})
	if came != 5 {
		t.Errorf("P3.1: %d lines were done", came)
	}
}

func TestDeferredSteps(t *testing.T) {
	behind := 0
	do := does(func(w *crew.Worker, c api.Call) api.Answer {
		defer func() {
			w.Step()
			behind++
		}()
		for range c.A {
			w.Step()
		}
		if c.Kind == 1 {
			panic("falls")
		}
		return api.Answer{Ok: true}
	})
	c := work([]api.Call{{A: 2}}, []api.Call{{Kind: 1, A: 1}})
	wantRun(t, "P3.1: deferred", c, do, api.Run{Steps: 5, Answers: [][]api.Answer{
		{{Begin: 1, End: 5, Own: 3, Ok: true}}, {{Begin: 2, End: 4, Own: 2, Err: api.ErrCrewFell}},
	}})
	if behind != 2 {
		t.Errorf("P3.1: deferred lines: %d", behind)
	}
	behind = 0
	c.Halt = []int{2, 1}
	wantRun(t, "P3.1: deferred, halted", c, do, api.Run{
		Steps: 3, Answers: [][]api.Answer{{}, {}}, Open: []api.Open{{Worker: 0, Begin: 1, Own: 2}, {Worker: 1, Begin: 2, Own: 1}},
	})
	if behind != 0 {
		t.Errorf("P3.1: behind the last turn %d lines were done", behind)
	}
}

// A deferred function is done also by who is let go: then too no two are under way at once.
func TestLeavingOneBehindTheOther(t *testing.T) {
	var left []int
	var busy atomic.Int32
	do := does(func(w *crew.Worker, c api.Call) api.Answer {
		defer func() {
			if busy.Add(1) != 1 {
				t.Error("P3.3: two leave at once")
			}
			time.Sleep(time.Millisecond)
			left = append(left, w.Number())
			busy.Add(-1)
		}()
		for {
			w.Step()
		}
	})
	c := work([]api.Call{{}}, []api.Call{{}}, []api.Call{{}}, []api.Call{{}})
	c.Until = 4
	if _, err := crew.Run(c, do); err != api.OK || len(left) != 4 {
		t.Errorf("P3.3: left: %v %v", left, err)
	}
}

// A worker that was kept gets no turn behind its run: its Step doesn't come back.
func TestKeptWorker(t *testing.T) {
	for _, halt := range []int{0, 1} {
		var kept *crew.Worker
		do := does(func(w *crew.Worker, c api.Call) api.Answer {
			kept = w
			w.Step()
			return api.Answer{}
		})
		c := work([]api.Call{{}, {}})
		c.Halt = []int{halt}
		crew.Run(c, do)
		back := false
		func() {
			defer func() { recover() }()
			kept.Step()
			back = true
		}()
		if back {
			t.Error("P3.1: a turn behind the run")
		}
	}
}

func TestLooseStepComesBack(t *testing.T) {
	c := work([]api.Call{{Kind: 100000, A: 3}}, []api.Call{{Kind: 1, A: 4}})
	c.Turns, c.Halt, c.Until = []int{1, 1, 1}, []int{1, 1}, 1
	l, err := crew.Loose(c, steps)
	if err != api.OK || len(l) != 2 || !sameList(l[0], []api.Answer{{N: 3}}) || !sameList(l[1], []api.Answer{{N: 4}}) {
		t.Errorf("P3.1: loose: %+v %v", l, err)
	}
}

func checkCases() map[string]api.Case {
	one := []api.Call{{Kind: 1, A: 1}}
	full, over := lots(api.MaxCalls, one[0]), lots(api.MaxCalls+1, one[0])
	return map[string]api.Case{
		"no workers":          {},
		"no workers, a list":  {Work: [][]api.Call{}, Turns: []int{1}},
		"nine workers":        work(one, one, one, one, one, one, one, one, one),
		"a thousand workers":  {Work: make([][]api.Call, 1000)},
		"a long list":         work(over),
		"a long list, last":   work(full, full, full, full, full, full, full, over),
		"a long list, middle": work(full, over, full),
		"Until below 0":       {Work: [][]api.Call{one}, Until: -1},
		"Until far below 0":   {Work: [][]api.Call{one}, Until: math.MinInt},
		"Until above":         {Work: [][]api.Call{one}, Until: api.MaxSteps + 1},
		"Until far above":     {Work: [][]api.Call{one}, Until: math.MaxInt},
	}
}

func TestCheckRefuses(t *testing.T) {
	called := false
	do := does(func(w *crew.Worker, c api.Call) api.Answer {
		called = true
		return api.Answer{}
	})
	for name, c := range checkCases() {
		if err := crew.Check(c); err != api.ErrCrewCase {
			t.Errorf("P3.2: Check, %s: %v", name, err)
		}
		if r, err := crew.Run(c, do); err != api.ErrCrewCase || !same(r, api.Run{}) {
			t.Errorf("P3.3: Run, %s: %+v %v", name, r, err)
		}
		if l, err := crew.Loose(c, do); err != api.ErrCrewCase || len(l) != 0 {
			t.Errorf("P3.4: Loose, %s: %+v %v", name, l, err)
		}
		if r, err := crew.Drill(c); err != api.ErrCrewCase || !same(r, api.Run{}) {
			t.Errorf("P3.5: Drill, %s: %+v %v", name, r, err)
		}
		if n, err := crew.Rush(c); err != api.ErrCrewCase || n != 0 {
			t.Errorf("P3.5: Rush, %s: %d %v", name, n, err)
		}
	}
	if called {
		t.Error("P3.3: a call of a refused case was done")
	}
}

func TestCheckTakes(t *testing.T) {
	one := []api.Call{{Kind: 1, A: 1}}
	full := lots(api.MaxCalls, one[0])
	for name, c := range map[string]api.Case{
		"one without calls":   {Work: [][]api.Call{nil}},
		"eight without calls": {Work: make([][]api.Call, 8)},
		"eight of the most":   work(full, full, full, full, full, full, full, full),
		"Until at the limit":  {Work: [][]api.Call{one}, Until: api.MaxSteps},
		"Until 1":             {Work: [][]api.Call{one}, Until: 1},
		"any turns, any halt": {Work: [][]api.Call{one}, Turns: farNumbers, Halt: farNumbers},
		"calls that can't be": work([]api.Call{{Kind: math.MinInt, A: math.MaxInt}}),
	} {
		if err := crew.Check(c); err != api.OK {
			t.Errorf("P3.2: %s: %v", name, err)
		}
		wantDrill(t, "P3.3: "+name, c, newModel(c).run())
		if n, err := crew.Rush(c); n != sum(c) || err != api.OK {
			t.Errorf("P3.5: %s: %d %v", name, n, err)
		}
	}
}

func TestDoGetsTheCalls(t *testing.T) {
	c := work(
		[]api.Call{{Kind: 1, A: 2, B: 3, C: 4, Pairs: []api.Pair{{Key: 5, Value: 6}}}, {Kind: -1, A: math.MinInt, B: -7, C: math.MaxInt}},
		nil,
		[]api.Call{{Pairs: []api.Pair{{Key: 1, Value: 1}, {Key: 2, Value: 2}}}},
	)
	do := does(func(w *crew.Worker, call api.Call) api.Answer {
		w.Step()
		return api.Answer{N: w.Number(), M: call.Kind, Ints: []int{call.A, call.B, call.C}, Pairs: call.Pairs, Ok: true, Err: api.ErrCellCall}
	})
	answer := func(worker, call, step, own int) api.Answer {
		a := do(nil, c.Work[worker][call])
		a.Begin, a.End, a.Own, a.N = step, step, own, worker
		return a
	}
	wantRun(t, "P3.3: calls", c, do, api.Run{Steps: 3, Answers: [][]api.Answer{
		{answer(0, 0, 1, 1), answer(0, 1, 3, 1)}, {}, {answer(2, 0, 2, 1)},
	}})
	l, err := crew.Loose(c, do)
	if err != api.OK || len(l) != 3 {
		t.Fatalf("P3.4: calls: %+v %v", l, err)
	}
	if !sameList(l[0], []api.Answer{answer(0, 0, 0, 0), answer(0, 1, 0, 0)}) || len(l[1]) != 0 || !sameList(l[2], []api.Answer{answer(2, 0, 0, 0)}) {
		t.Errorf("P3.4: calls: %+v", l)
	}
}

func TestBeginEndOwnAreTheRuns(t *testing.T) {
	do := does(func(w *crew.Worker, c api.Call) api.Answer {
		for range c.A {
			w.Step()
		}
		if c.Kind == 1 {
			panic("falls")
		}
		return api.Answer{Begin: 77, End: -78, Own: 79, N: 1, M: 2, Ok: true, Err: api.ErrPoolFull}
	})
	c := work([]api.Call{{A: 2}, {A: 0}, {A: 3}}, []api.Call{{A: 1}, {Kind: 1, A: 2}})
	told := func(begin, end, own int) api.Answer {
		return api.Answer{Begin: begin, End: end, Own: own, N: 1, M: 2, Ok: true, Err: api.ErrPoolFull}
	}
	wantRun(t, "P3.3: Begin, End, Own", c, do, api.Run{Steps: 9, Answers: [][]api.Answer{
		{told(1, 3, 2), told(5, 5, 1), told(7, 9, 3)}, {told(2, 2, 1), {Begin: 4, End: 6, Own: 2, Err: api.ErrCrewFell}},
	}})
	l, err := crew.Loose(c, do)
	given := told(77, -78, 79)
	if err != api.OK || !sameList(l[0], []api.Answer{given, given, given}) || !sameList(l[1], []api.Answer{given, {Err: api.ErrCrewFell}}) {
		t.Errorf("P3.4: as Do gave them: %+v %v", l, err)
	}
}

// What a call without a Step does is done at its own turn, and just if that comes.
func TestCallsWithoutSteps(t *testing.T) {
	var order []int
	do := does(func(w *crew.Worker, c api.Call) api.Answer {
		order = append(order, w.Number())
		return api.Answer{N: c.A, M: len(order)}
	})
	c := work(lots(3, api.Call{A: 5}), lots(2, api.Call{A: 6}))
	c.Turns = []int{1, 0, 0, 1, 0}
	one := func(step, n int) api.Answer {
		return api.Answer{Begin: step, End: step, Own: 1, N: n, M: step}
	}
	wantRun(t, "P3.3: no Step", c, do, api.Run{Steps: 5, Answers: [][]api.Answer{
		{one(2, 5), one(3, 5), one(5, 5)}, {one(1, 6), one(4, 6)},
	}})
	if !slices.Equal(order, []int{1, 0, 0, 1, 0}) {
		t.Errorf("P3.3: no Step: %v", order)
	}
	order = nil
	c.Halt, c.Until = []int{1}, 2
	wantRun(t, "P3.3: no Step, halted", c, do, api.Run{Steps: 2, Cut: true, Answers: [][]api.Answer{{one(2, 5)}, {one(1, 6)}}})
	if len(order) != 2 {
		t.Errorf("P3.3: no Step, halted: calls of %v were done", order)
	}
}

func panics() map[string]func() {
	var empty map[int]int
	var list []int
	return map[string]func(){
		"a text":      func() { panic("falls") },
		"an error":    func() { panic(errors.New("falls")) },
		"a number":    func() { panic(0) },
		"nil":         func() { panic(nil) },
		"no map":      func() { empty[1] = 1 },
		"no place":    func() { _ = list[len(empty)] },
		"divides":     func() { _ = 1 / len(list) },
		"ends itself": func() { runtime.Goexit() },
	}
}

func TestFallen(t *testing.T) {
	for name, fall := range panics() {
		for _, lines := range []int{0, 1, 2, 5} {
			do := does(func(w *crew.Worker, c api.Call) (a api.Answer) {
				a = api.Answer{Ok: true, N: 7, Ints: []int{1}}
				for range c.A {
					w.Step()
				}
				if c.Kind == 1 {
					fall()
				}
				return a
			})
			good := func(begin, end, own int) api.Answer {
				return api.Answer{Begin: begin, End: end, Own: own, Ok: true, N: 7, Ints: []int{1}}
			}
			c := work([]api.Call{{}, {Kind: 1, A: lines}, {}, {}})
			own := max(lines, 1)
			wantRun(t, "P3.3: falls by "+name, c, do, api.Run{Steps: 1 + own, Answers: [][]api.Answer{
				{good(1, 1, 1), {Begin: 2, End: 1 + own, Own: own, Err: api.ErrCrewFell}},
			}})
			c.Work = append(c.Work, []api.Call{{A: 1}, {A: 1}})
			c.Turns = []int{1, 1}
			wantRun(t, "P3.3: falls behind all others, by "+name, c, do, api.Run{Steps: 3 + own, Answers: [][]api.Answer{
				{good(3, 3, 1), {Begin: 4, End: 3 + own, Own: own, Err: api.ErrCrewFell}}, {good(1, 1, 1), good(2, 2, 1)},
			}})
		}
	}
}

func TestFallenLoose(t *testing.T) {
	for name, fall := range panics() {
		if name == "ends itself" {
			continue
		}
		do := does(func(w *crew.Worker, c api.Call) (a api.Answer) {
			a = api.Answer{Ok: true, N: c.A, Begin: 3}
			if c.Kind == 1 {
				fall()
			}
			return a
		})
		c := work([]api.Call{{A: 1}, {Kind: 1}, {A: 2}}, []api.Call{{A: 3}, {A: 4}}, []api.Call{{Kind: 1}, {Kind: 1}}, []api.Call{{A: 5}, {Kind: 1}})
		good := func(n int) api.Answer { return api.Answer{Ok: true, N: n, Begin: 3} }
		fell := api.Answer{Err: api.ErrCrewFell}
		want := [][]api.Answer{{good(1), fell}, {good(3), good(4)}, {fell}, {good(5), fell}}
		l, err := crew.Loose(c, do)
		if err != api.OK || len(l) != len(want) {
			t.Fatalf("P3.4: falls by %s: %+v %v", name, l, err)
		}
		for k := range want {
			if !sameList(l[k], want[k]) {
				t.Errorf("P3.4: falls by %s: worker %d: %+v, want %+v", name, k, l[k], want[k])
			}
		}
	}
}

// Others go on when somebody falls, and a fallen worker isn't ready, so a run may end uncut at its last step.
func TestOthersGoOn(t *testing.T) {
	c := work([]api.Call{{Kind: 3, A: 1}, {Kind: 1, A: 1}}, []api.Call{{Kind: 1, A: 3}, {Kind: 2, A: 4}})
	want := api.Run{Steps: 5, Answers: [][]api.Answer{
		{{Begin: 1, End: 1, Own: 1, Err: api.ErrCrewFell}},
		{{Begin: 2, End: 4, Own: 3, Ok: true, N: 3}, {Begin: 5, End: 5, Own: 1, Ok: true}},
	}}
	wantDrill(t, "P3.3: others go on", c, want)
	c.Until = 5
	wantDrill(t, "P3.3: nobody is ready behind the last step", c, want)
	c = work([]api.Call{{Kind: 3, A: 2}, {Kind: 1, A: 1}})
	c.Until = 2
	wantDrill(t, "P3.3: fallen at the last step", c, api.Run{Steps: 2, Answers: [][]api.Answer{{{Begin: 1, End: 2, Own: 2, Err: api.ErrCrewFell}}}})
}

func TestHalts(t *testing.T) {
	c := work([]api.Call{{Kind: 1, A: 2}, {Kind: 1, A: 2}}, []api.Call{{Kind: 1, A: 3}})
	count := func(begin, end, n int) api.Answer {
		return api.Answer{Begin: begin, End: end, Own: n, Ok: true, N: n}
	}
	for _, one := range []struct {
		name string
		halt []int
		want api.Run
	}{
		{"none", nil, api.Run{Steps: 7, Answers: [][]api.Answer{{count(1, 3, 2), count(5, 7, 2)}, {count(2, 6, 3)}}}},
		{"below 1", []int{0, -1}, api.Run{Steps: 7, Answers: [][]api.Answer{{count(1, 3, 2), count(5, 7, 2)}, {count(2, 6, 3)}}}},
		{"far below 1", []int{math.MinInt, math.MinInt}, api.Run{Steps: 7, Answers: [][]api.Answer{{count(1, 3, 2), count(5, 7, 2)}, {count(2, 6, 3)}}}},
		{"beyond the workers", []int{0, 0, 1, 1, 1, 1, 1, 1, 1, 1}, api.Run{Steps: 7, Answers: [][]api.Answer{{count(1, 3, 2), count(5, 7, 2)}, {count(2, 6, 3)}}}},
		{"at the last line of all", []int{4, 3}, api.Run{Steps: 7, Answers: [][]api.Answer{{count(1, 3, 2), count(5, 7, 2)}, {count(2, 6, 3)}}}},
		{"far away", []int{math.MaxInt, math.MaxInt}, api.Run{Steps: 7, Answers: [][]api.Answer{{count(1, 3, 2), count(5, 7, 2)}, {count(2, 6, 3)}}}},
		{"shorter than the workers", []int{1}, api.Run{Steps: 4, Answers: [][]api.Answer{{}, {count(2, 4, 3)}}, Open: []api.Open{{Worker: 0, Begin: 1, Own: 1}}}},
		{"at the last line of a call", []int{2}, api.Run{Steps: 5, Answers: [][]api.Answer{{count(1, 3, 2)}, {count(2, 5, 3)}}}},
		{"in the midst of the second", []int{3}, api.Run{Steps: 6, Answers: [][]api.Answer{{count(1, 3, 2)}, {count(2, 6, 3)}}, Open: []api.Open{{Worker: 0, Begin: 5, Own: 1}}}},
		{"both", []int{1, 2}, api.Run{Steps: 3, Answers: [][]api.Answer{{}, {}}, Open: []api.Open{{Worker: 0, Begin: 1, Own: 1}, {Worker: 1, Begin: 2, Own: 2}}}},
	} {
		c.Halt = one.halt
		wantDrill(t, "P3.3: Halt: "+one.name, c, one.want)
	}
}

func TestUntil(t *testing.T) {
	c := work([]api.Call{{Kind: 1, A: 2}}, []api.Call{{Kind: 1, A: 2}, {Kind: 2, A: 9}})
	all := []api.Answer{{Begin: 1, End: 3, Own: 2, Ok: true, N: 2}, {Begin: 2, End: 4, Own: 2, Ok: true, N: 2}, {Begin: 5, End: 5, Own: 1, Ok: true}}
	whole := api.Run{Steps: 5, Answers: [][]api.Answer{all[:1], all[1:]}}
	for until, want := range map[int]api.Run{
		1:     {Steps: 1, Cut: true, Answers: [][]api.Answer{{}, {}}, Open: []api.Open{{Worker: 0, Begin: 1, Own: 1}}},
		2:     {Steps: 2, Cut: true, Answers: [][]api.Answer{{}, {}}, Open: []api.Open{{Worker: 0, Begin: 1, Own: 1}, {Worker: 1, Begin: 2, Own: 1}}},
		3:     {Steps: 3, Cut: true, Answers: [][]api.Answer{all[:1], {}}, Open: []api.Open{{Worker: 1, Begin: 2, Own: 1}}},
		4:     {Steps: 4, Cut: true, Answers: [][]api.Answer{all[:1], all[1:2]}},
		5:     whole,
		6:     whole,
		0:     whole,
		20000: whole,
	} {
		c.Until = until
		wantDrill(t, "P3.3: Until", c, want)
	}
	c.Until, c.Halt = 4, []int{0, 2}
	wantDrill(t, "P3.3: who is halted isn't ready: not Cut", c, api.Run{Steps: 4, Answers: [][]api.Answer{all[:1], all[1:2]}})
}

// A run of just MaxSteps steps isn't cut, one of a step more is.
func TestLimitOfSteps(t *testing.T) {
	c := work(lots(50, api.Call{Kind: 200}), lots(50, api.Call{Kind: 200}))
	if r, err := crew.Run(c, steps); err != api.OK || r.Cut || r.Steps != 20000 || len(r.Open) != 0 {
		t.Errorf("P3.3: %d steps, cut %v, %v", r.Steps, r.Cut, err)
	}
	c.Work[1] = append(c.Work[1], api.Call{Kind: 1})
	if r, err := crew.Run(c, steps); err != api.OK || !r.Cut || r.Steps != 20000 || len(r.Open) != 0 || len(r.Answers[1]) != 50 {
		t.Errorf("P3.3: %d steps, cut %v, %v", r.Steps, r.Cut, err)
	}
}

func TestAloneInItsTurn(t *testing.T) {
	var busy atomic.Int32
	do := does(func(w *crew.Worker, c api.Call) api.Answer {
		for i := range 4 {
			if busy.Add(1) != 1 {
				t.Error("P3.3: two at once")
			}
			runtime.Gosched()
			busy.Add(-1)
			if i < 3 {
				w.Step()
			}
		}
		return api.Answer{}
	})
	c := api.Case{Work: make([][]api.Call, 8)}
	for k := range c.Work {
		c.Work[k] = lots(8, api.Call{})
	}
	if r, err := crew.Run(c, do); err != api.OK || r.Steps != 8*8*3 {
		t.Errorf("P3.3: %d %v", r.Steps, err)
	}
}

// All workers of Loose are there at one time: each waits for all the others.
func TestLooseAtOnce(t *testing.T) {
	for _, workers := range []int{1, 2, 8} {
		met := make(chan struct{})
		var here atomic.Int32
		do := does(func(w *crew.Worker, c api.Call) api.Answer {
			if int(here.Add(1)) == workers {
				close(met)
			}
			<-met
			return api.Answer{N: w.Number()}
		})
		c := api.Case{Work: make([][]api.Call, workers)}
		for k := range c.Work {
			c.Work[k] = []api.Call{{}}
		}
		l, err := crew.Loose(c, do)
		if err != api.OK || len(l) != workers {
			t.Fatalf("P3.4: %+v %v", l, err)
		}
		for k := range l {
			if !sameList(l[k], []api.Answer{{N: k}}) {
				t.Errorf("P3.4: worker %d: %+v", k, l[k])
			}
		}
	}
}

func TestLooseLooksAtWorkAlone(t *testing.T) {
	c := work(lots(64, api.Call{Kind: 1000, A: 1}), nil, lots(64, api.Call{Kind: 1, A: 2}))
	for _, turns := range [][]int{nil, {2, 2, -5}, farNumbers} {
		for _, halt := range [][]int{nil, {1, 1, 1}, farNumbers} {
			for _, until := range []int{0, 1, api.MaxSteps} {
				c.Turns, c.Halt, c.Until = turns, halt, until
				l, err := crew.Loose(c, steps)
				if err != api.OK || len(l) != 3 || len(l[0]) != 64 || len(l[1]) != 0 || len(l[2]) != 64 || l[0][63].N != 1 || l[2][0].N != 2 {
					t.Fatalf("P3.4: %v %v %d: %+v %v", turns, halt, until, l, err)
				}
			}
		}
	}
}

func TestDrillCalls(t *testing.T) {
	for _, kind := range []int{math.MinInt, -1, 0, 1, 2, 3, 4, 5, math.MaxInt} {
		for _, a := range farNumbers {
			c := work([]api.Call{{Kind: 2, A: 10}, {Kind: kind, A: a}, {Kind: 2, A: 100}, {Kind: 2, A: 0}})
			var want []api.Answer
			number, step := 0, 0
			for _, call := range c.Work[0] {
				lines, falls := drillLines(call)
				var answer api.Answer
				answer, number = drillAnswer(call, number)
				answer.Begin, answer.End, answer.Own = step+1, step+lines, lines
				want = append(want, answer)
				step += lines
				if falls {
					break
				}
			}
			wantDrill(t, "P3.5", c, api.Run{Steps: step, Answers: [][]api.Answer{want}})
			if n, err := crew.Rush(c); n != number || err != api.OK {
				t.Errorf("P3.5: Rush of kind %d with A %d: %d %v, want %d", kind, a, n, err, number)
			}
		}
	}
}

// The same by hand, at the edges: which calls of a drill there are.
func TestDrillEdges(t *testing.T) {
	for _, one := range []struct {
		kind, a, own int
		want         api.Answer
	}{
		{1, 1, 1, api.Answer{Ok: true, N: 1}},
		{1, 64, 64, api.Answer{Ok: true, N: 64}},
		{1, 0, 1, api.Answer{Err: api.ErrCrewCall}},
		{1, 65, 1, api.Answer{Err: api.ErrCrewCall}},
		{1, -1, 1, api.Answer{Err: api.ErrCrewCall}},
		{1, math.MinInt, 1, api.Answer{Err: api.ErrCrewCall}},
		{1, math.MaxInt, 1, api.Answer{Err: api.ErrCrewCall}},
		{2, 0, 1, api.Answer{Ok: true}},
		{2, math.MinInt, 1, api.Answer{Ok: true}},
		{2, math.MaxInt, 1, api.Answer{Ok: true}},
		{3, 1, 1, api.Answer{Err: api.ErrCrewFell}},
		{3, 64, 64, api.Answer{Err: api.ErrCrewFell}},
		{3, 0, 1, api.Answer{Err: api.ErrCrewCall}},
		{3, 65, 1, api.Answer{Err: api.ErrCrewCall}},
		{3, -1, 1, api.Answer{Err: api.ErrCrewCall}},
		{3, math.MinInt, 1, api.Answer{Err: api.ErrCrewCall}},
		{3, math.MaxInt, 1, api.Answer{Err: api.ErrCrewCall}},
		{0, 1, 1, api.Answer{Err: api.ErrCrewCall}},
		{4, 1, 1, api.Answer{Err: api.ErrCrewCall}},
		{-1, 1, 1, api.Answer{Err: api.ErrCrewCall}},
	} {
		want := one.want
		want.Begin, want.End, want.Own = 1, one.own, one.own
		c := work([]api.Call{{Kind: one.kind, A: one.a, B: 3, C: 4}})
		wantDrill(t, "P3.5", c, api.Run{Steps: one.own, Answers: [][]api.Answer{{want}}})
	}
}

// The shared number begins at 0 each time, and goes round behind the greatest int.
func TestDrillNumber(t *testing.T) {
	c := work([]api.Call{{Kind: 2, A: math.MaxInt}, {Kind: 2, A: 1}, {Kind: 2, A: math.MinInt}, {Kind: 2, A: -5}})
	one := func(step, n int) api.Answer {
		return api.Answer{Begin: step, End: step, Own: 1, Ok: true, N: n}
	}
	for range 3 {
		wantDrill(t, "P3.5", c, api.Run{Steps: 4, Answers: [][]api.Answer{{one(1, 0), one(2, math.MaxInt), one(3, math.MinInt), one(4, 0)}}})
		if n, err := crew.Rush(c); n != -5 || err != api.OK {
			t.Errorf("P3.5: Rush: %d %v", n, err)
		}
	}
}

// An add is one line: in whatever order they come, none is lost.
func TestDrillAddsMeet(t *testing.T) {
	c := work(lots(64, api.Call{Kind: 2, A: 1}), lots(64, api.Call{Kind: 2, A: 1}), lots(64, api.Call{Kind: 2, A: 1}), lots(64, api.Call{Kind: 2, A: 1}),
		lots(64, api.Call{Kind: 2, A: 1}), lots(64, api.Call{Kind: 2, A: 1}), lots(64, api.Call{Kind: 2, A: 1}), lots(64, api.Call{Kind: 2, A: 1}))
	wantDrill(t, "P3.5", c, newModel(c).run())
	for range 200 {
		if n, err := crew.Rush(c); n != 512 || err != api.OK {
			t.Fatalf("P3.8: %d %v", n, err)
		}
	}
}

func TestAgainstModel(t *testing.T) {
	mixedCases(4000, func(c api.Case) {
		wantDrill(t, "P3.6", c, newModel(c).run())
		if n, err := crew.Rush(c); n != sum(c) || err != api.OK {
			t.Fatalf("P3.8: %+v: %d %v, want %d", c, n, err, sum(c))
		}
	})
}

func TestSameEachTime(t *testing.T) {
	for _, procs := range []int{1, 2, 8} {
		old := runtime.GOMAXPROCS(procs)
		mixedCases(40, func(c api.Case) {
			first, _ := crew.Drill(c)
			for range 10 {
				wantDrill(t, "P3.6: again", c, first)
			}
		})
		runtime.GOMAXPROCS(old)
	}
}

// Each step is one worker's, and a worker's steps are the lines of its calls, in their order.
func TestStepsAreLines(t *testing.T) {
	mixedCases(500, func(c api.Case) {
		m := newModel(c)
		m.run()
		type line struct{ call, line int }
		var log []int
		lines := make([][]line, len(c.Work))
		calls := make([]int, len(c.Work))
		do := does(func(w *crew.Worker, call api.Call) api.Answer {
			count, falls := drillLines(call)
			k := w.Number()
			for i := range count {
				w.Step()
				log = append(log, k)
				lines[k] = append(lines[k], line{calls[k], i})
			}
			calls[k]++
			if falls {
				panic("falls")
			}
			return api.Answer{}
		})
		if r, err := crew.Run(c, do); err != api.OK || r.Steps != len(log) || !slices.Equal(log, m.log) {
			t.Fatalf("P3.6: %+v: steps of %v, want %v; %v", c, log, m.log, err)
		}
		for k, done := range lines {
			var want []line
			for i, call := range c.Work[k] {
				count, _ := drillLines(call)
				for j := range count {
					want = append(want, line{i, j})
				}
			}
			if len(done) > len(want) || !slices.Equal(done, want[:len(done)]) {
				t.Fatalf("P3.6: %+v: worker %d did %v", c, k, done)
			}
		}
	})
}

// stepsOf tells how many steps a worker did.
func stepsOf(r api.Run, worker int) int {
	count := 0
	for _, a := range r.Answers[worker] {
		count += a.Own
	}
	for _, o := range r.Open {
		if o.Worker == worker {
			count += o.Own
		}
	}
	return count
}

func TestUncutRunsAnswerAll(t *testing.T) {
	uncut := 0
	mixedCases(1000, func(c api.Case) {
		r, _ := crew.Drill(c)
		if r.Cut {
			return
		}
		for k, answers := range r.Answers {
			fell := len(answers) > 0 && answers[len(answers)-1].Err == api.ErrCrewFell
			halted := k < len(c.Halt) && c.Halt[k] > 0 && stepsOf(r, k) == c.Halt[k]
			if !fell && !halted && len(answers) != len(c.Work[k]) {
				t.Fatalf("P3.7: %+v: worker %d: %+v", c, k, answers)
			}
		}
		uncut++
	})
	if uncut < 100 {
		t.Fatalf("P3.7: too few cases: %d", uncut)
	}
}

// deepCopy copies a case with all its lists, each with spare room that is filled.
func deepCopy(c api.Case) api.Case {
	own := api.Case{Turns: spare(c.Turns, -9), Halt: spare(c.Halt, -9), Until: c.Until}
	for _, calls := range c.Work {
		list := spare(calls, api.Call{Kind: -9})
		for i := range list {
			list[i].Pairs = spare(list[i].Pairs, api.Pair{Key: -9})
		}
		own.Work = append(own.Work, list)
	}
	own.Work = spare(own.Work, []api.Call{{Kind: -9}})
	return own
}

// spare tells a list like this one with two places more behind it.
func spare[T any](list []T, filler T) []T {
	own := append(make([]T, 0, len(list)+2), list...)
	return append(own, filler, filler)[:len(list)]
}

func sameCase(a, b api.Case) bool {
	if a.Until != b.Until || !slices.Equal(wide(a.Turns), wide(b.Turns)) || !slices.Equal(wide(a.Halt), wide(b.Halt)) {
		return false
	}
	return slices.EqualFunc(wide(a.Work), wide(b.Work), func(x, y []api.Call) bool {
		return slices.EqualFunc(wide(x), wide(y), func(p, q api.Call) bool {
			return p.Kind == q.Kind && p.A == q.A && p.B == q.B && p.C == q.C && slices.Equal(wide(p.Pairs), wide(q.Pairs))
		})
	})
}

// wide tells a list with its spare room.
func wide[T any](list []T) []T { return list[:cap(list)] }

func pairCase() api.Case {
	return deepCopy(api.Case{
		Work: [][]api.Call{
			{{Kind: 1, A: 2, Pairs: []api.Pair{{Key: 1, Value: 2}, {Key: 3, Value: 4}}}, {Kind: 1, A: 3, Pairs: []api.Pair{{Key: 5, Value: 6}}}},
			{{Kind: 1, A: 4, Pairs: []api.Pair{{Key: 7, Value: 8}}}},
		},
		Turns: []int{1, 0, 0, 1}, Halt: []int{0, 9},
	})
}

// scribble writes into all that it is handed, its spare room too, and answers lists that are handed in, and one list time and again.
func scribble(buffer []int) does {
	return func(w *crew.Worker, c api.Call) api.Answer {
		w.Step()
		a := api.Answer{Ints: buffer, Pairs: c.Pairs, N: c.A}
		for i := range buffer {
			buffer[i] = c.A*10 + i
		}
		_ = append(c.Pairs, api.Pair{Key: -1, Value: -1})
		for i := range c.Pairs {
			c.Pairs[i].Value += 100
		}
		return a
	}
}

func wantScribbled(t *testing.T, promise string, answers [][]api.Answer) {
	t.Helper()
	for _, one := range []struct {
		worker, call int
		ints         []int
		pairs        []api.Pair
	}{
		{0, 0, []int{20, 21}, []api.Pair{{Key: 1, Value: 102}, {Key: 3, Value: 104}}},
		{0, 1, []int{30, 31}, []api.Pair{{Key: 5, Value: 106}}},
		{1, 0, []int{40, 41}, []api.Pair{{Key: 7, Value: 108}}},
	} {
		a := answers[one.worker][one.call]
		if !slices.Equal(a.Ints, one.ints) || !slices.Equal(a.Pairs, one.pairs) {
			t.Errorf("%s: worker %d, call %d: %+v", promise, one.worker, one.call, a)
		}
	}
}

// spoil writes into all that a case hangs together with.
func spoil(c api.Case) {
	for i := range wide(c.Turns) {
		wide(c.Turns)[i] = 99
	}
	for i := range wide(c.Halt) {
		wide(c.Halt)[i] = 99
	}
	for _, calls := range c.Work {
		for i := range wide(calls) {
			for j := range wide(wide(calls)[i].Pairs) {
				wide(wide(calls)[i].Pairs)[j] = api.Pair{Key: 99, Value: 99}
			}
			wide(calls)[i] = api.Call{Kind: 99}
		}
	}
	clear(wide(c.Work))
}

func TestRunKeepsToItsOwnMemory(t *testing.T) {
	c, buffer := pairCase(), spare([]int{0, 0}, -9)
	r, err := crew.Run(c, scribble(buffer))
	if err != api.OK || !sameCase(c, pairCase()) {
		t.Fatalf("P3.3: the case was changed: %+v %v", c, err)
	}
	wantScribbled(t, "P3.3", r.Answers)
	spoil(c)
	clear(wide(buffer))
	wantScribbled(t, "P3.3: the owner changes its lists", r.Answers)
	again, _ := crew.Run(pairCase(), scribble(buffer))
	fillSpare(again.Answers)
	wantScribbled(t, "P3.3: spare room", again.Answers)
	wantScribbled(t, "P3.3: another answer", r.Answers)
}

func TestLooseKeepsToItsOwnMemory(t *testing.T) {
	own := [][]int{spare([]int{0, 0}, -9), spare([]int{0, 0}, -9)} // one a worker: they write at once
	do := does(func(w *crew.Worker, c api.Call) api.Answer { return scribble(own[w.Number()])(w, c) })
	c := pairCase()
	l, err := crew.Loose(c, do)
	if err != api.OK || !sameCase(c, pairCase()) {
		t.Fatalf("P3.4: the case was changed: %+v %v", c, err)
	}
	wantScribbled(t, "P3.4", l)
	spoil(c)
	clear(wide(own[0]))
	clear(wide(own[1]))
	wantScribbled(t, "P3.4: the owner changes its lists", l)
	fillSpare(l)
	wantScribbled(t, "P3.4: spare room", l)
}

// A call may answer one list time and again: each answer keeps what it was then.
func TestOneListAnsweredTwice(t *testing.T) {
	for name, ask := range map[string]func(c api.Case, d crew.Does) ([][]api.Answer, api.Errno){
		"P3.3": func(c api.Case, d crew.Does) ([][]api.Answer, api.Errno) {
			r, err := crew.Run(c, d)
			return r.Answers, err
		},
		"P3.4": crew.Loose,
	} {
		ints, pairs := spare([]int{0}, -9), spare([]api.Pair{{}}, api.Pair{Key: -9})
		do := does(func(w *crew.Worker, c api.Call) api.Answer {
			ints[0], pairs[0] = c.A, api.Pair{Key: c.A, Value: c.A}
			return api.Answer{Ints: ints, Pairs: pairs}
		})
		answers, err := ask(work([]api.Call{{A: 1}, {A: 2}, {A: 3}}), do)
		if err != api.OK || len(answers) != 1 || len(answers[0]) != 3 {
			t.Fatalf("%s: %+v %v", name, answers, err)
		}
		fillSpare(answers)
		clear(wide(ints))
		clear(wide(pairs))
		for i, a := range answers[0] {
			if !slices.Equal(a.Ints, []int{i + 1}) || !slices.Equal(a.Pairs, []api.Pair{{Key: i + 1, Value: i + 1}}) {
				t.Errorf("%s: answer %d: %+v", name, i, a)
			}
		}
	}
}

// One list may stand at several places of a case: its workers change it at once.
func TestLooseOneListForAll(t *testing.T) {
	pairs := []api.Pair{{Key: 1, Value: 1}, {Key: 2, Value: 2}}
	calls := lots(64, api.Call{Pairs: pairs})
	c := work(calls, calls, calls, calls)
	do := does(func(w *crew.Worker, c api.Call) api.Answer {
		c.Pairs[0].Value += w.Number()
		return api.Answer{N: c.Pairs[0].Value, Pairs: c.Pairs}
	})
	l, err := crew.Loose(c, do)
	if err != api.OK || pairs[0].Value != 1 {
		t.Fatalf("P3.4: %v %v", pairs, err)
	}
	for k := range l {
		for _, a := range l[k] {
			if a.N != 1+k || a.Pairs[0].Value != 1+k {
				t.Fatalf("P3.4: worker %d: %+v", k, a)
			}
		}
	}
}

// fillSpare writes behind the end of every list of the answers.
func fillSpare(answers [][]api.Answer) {
	for _, list := range answers {
		for _, a := range list {
			_ = append(a.Ints, -5, -5, -5)
			_ = append(a.Pairs, api.Pair{Key: -5}, api.Pair{Key: -5}, api.Pair{Key: -5})
		}
		_ = append(list, api.Answer{N: -5})
	}
	_ = append(answers, []api.Answer{{N: -5}})
}

// What a case's calls change of the case while it runs is nobody's: the case was taken when it came in.
func TestCaseIsTakenAtOnce(t *testing.T) {
	c := work(lots(3, api.Call{Kind: 1, A: 1}), lots(3, api.Call{Kind: 1, A: 2}))
	c.Turns, c.Halt = []int{1, 1, 0, 0}, []int{9, 9}
	do := does(func(w *crew.Worker, call api.Call) api.Answer {
		w.Step()
		spoil(c)
		return api.Answer{N: call.A}
	})
	one := func(step, n int) api.Answer { return api.Answer{Begin: step, End: step, Own: 1, N: n} }
	wantRun(t, "P3.3", c, do, api.Run{Steps: 6, Answers: [][]api.Answer{
		{one(3, 1), one(4, 1), one(6, 1)}, {one(1, 2), one(2, 2), one(5, 2)},
	}})
}

// While a call's goroutines go on, what it deferred isn't done yet.
func TestGoroutinesHaveEnded(t *testing.T) {
	before := runtime.NumGoroutine()
	var within atomic.Int32
	do := does(func(w *crew.Worker, c api.Call) api.Answer {
		within.Add(1)
		defer func() {
			runtime.Gosched()
			within.Add(-1)
		}()
		for range c.A {
			w.Step()
		}
		if c.Kind == 3 {
			panic("falls")
		}
		return api.Answer{}
	})
	mixedCases(500, func(c api.Case) {
		for k := range c.Work {
			for i := range c.Work[k] {
				c.Work[k][i].A = min(c.Work[k][i].A, 100)
			}
		}
		crew.Run(c, do)
		if n := within.Load(); n != 0 {
			t.Fatalf("P3.3: %d are under way still: %+v", n, c)
		}
		crew.Loose(c, do)
		if n := within.Load(); n != 0 {
			t.Fatalf("P3.4: %d are under way still: %+v", n, c)
		}
		crew.Drill(c)
		crew.Rush(c)
	})
	for range 1000 {
		if runtime.NumGoroutine() <= before {
			return
		}
		time.Sleep(time.Millisecond)
	}
	t.Errorf("P3.3: %d goroutines, %d ahead of it", runtime.NumGoroutine(), before)
}

// A run within a call of a run goes by turns of its own.
func TestRunWithinRun(t *testing.T) {
	do := does(func(w *crew.Worker, c api.Call) api.Answer {
		w.Step()
		r, err := crew.Drill(work([]api.Call{{Kind: 1, A: c.A}}))
		w.Step()
		return api.Answer{N: r.Steps, Err: err}
	})
	c := work([]api.Call{{A: 3}}, []api.Call{{A: 5}})
	wantRun(t, "P3.3: within", c, do, api.Run{Steps: 4, Answers: [][]api.Answer{
		{{Begin: 1, End: 3, Own: 2, N: 3}}, {{Begin: 2, End: 4, Own: 2, N: 5}},
	}})
}
