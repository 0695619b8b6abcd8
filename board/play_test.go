package board_test

import (
	"runtime"
	"slices"
	"testing"
	"time"

	"skein/api"
	"skein/board"
)

func TestPlayRefuses(t *testing.T) {
	good, bad := work([]api.Call{put(1, 1), all()}), api.Case{}
	refuses := func(start []api.Pair, c api.Case, want api.Errno) {
		t.Helper()
		run, table, err := board.Play(start, c)
		if err != want || !sameRun(run, api.Run{}) || len(table) > 0 {
			t.Errorf("P9.3: Play(%v, %+v): %+v, %v, %v, want %v", start, c, run, table, err, want)
		}
	}
	for _, c := range []api.Case{good, bad} {
		refuses(full(65), c, api.ErrBoardFull)
		refuses(append(full(64), is(maxKey, 1)), c, api.ErrBoardFull)
		for _, name := range noNames {
			refuses([]api.Pair{is(name, 1)}, c, api.ErrBoardName)
			refuses(append(full(3), is(name, 1)), c, api.ErrBoardName)
			refuses(append(full(70), is(name, 1)), c, api.ErrBoardName)
		}
	}
	for _, c := range []api.Case{
		bad,
		{Work: make([][]api.Call, 9)},
		work(nil, make([]api.Call, 65)),
		{Work: good.Work, Until: -1},
		{Work: good.Work, Until: lowest},
		{Work: good.Work, Until: api.MaxSteps + 1},
		{Work: good.Work, Until: highest},
	} {
		refuses(nil, c, api.ErrCrewCase)
		refuses(full(64), c, api.ErrCrewCase)
	}
}

func TestIdlePlay(t *testing.T) {
	for n := 0; n <= 64; n++ {
		wantPlay(t, "P9.3: no calls", full(n), work(nil, nil), api.Run{Answers: [][]api.Answer{nil, nil}}, full(n))
	}
	wantPlay(t, "P9.3: no calls", []api.Pair{is(5, 1), is(3, 2), is(5, 9)}, work(nil), api.Run{Answers: [][]api.Answer{nil}}, []api.Pair{is(3, 2), is(5, 9)})
}

// steps: the answers of one worker's calls, one behind the other, each in its Own lines.
func steps(answers ...api.Answer) api.Run {
	run := api.Run{Answers: [][]api.Answer{answers}}
	for i := range answers {
		answers[i].Begin = run.Steps + 1
		run.Steps += answers[i].Own
		answers[i].End = run.Steps
	}
	return run
}

func TestPlaysCalls(t *testing.T) {
	ok, no, none := api.Answer{Ok: true}, api.Answer{}, api.Answer{Err: api.ErrBoardNone}
	c := work([]api.Call{
		all(), count(), get(5), get(4),
		put(4, 9), put(4, 9), put(4, 8), add(4, 1), add(6, -1),
		swap(4, 8, 8), swap(4, 8, 7), swap(4, 8, 6), swap(9, 0, 0),
		all(), count(), get(4), drop(6), drop(6), get(6), drop(5), drop(3), drop(4), all(), count(),
	})
	wantPlay(t, "P9.3", []api.Pair{is(5, 1), is(3, 2)}, c, steps(
		own(1, api.Answer{Pairs: []api.Pair{is(3, 2), is(5, 1)}}), own(1, api.Answer{N: 2}), own(1, api.Answer{N: 1}), own(1, none),
		own(2, ok), own(1, no), own(2, ok), own(1, no), own(2, ok),
		own(1, ok), own(2, ok), own(1, no), own(1, none),
		own(1, api.Answer{Pairs: []api.Pair{is(3, 2), is(4, 7), is(5, 1), is(6, -1)}}), own(1, api.Answer{N: 4}), own(1, api.Answer{N: 7}),
		own(2, api.Answer{N: -1}), own(1, none), own(1, none), own(2, api.Answer{N: 1}), own(2, api.Answer{N: 2}), own(2, api.Answer{N: 7}), own(1, no), own(1, no),
	), nil)
}

// Every value is told as it is, by each call that tells one.
func TestPlaysValues(t *testing.T) {
	for _, name := range someNames {
		for _, v := range farNumbers {
			c := work([]api.Call{put(name, v), get(name), all(), swap(name, v, v+1), get(name), drop(name), add(name, v), swap(name, v, v)})
			wantPlay(t, "P9.3: values", nil, c, steps(
				own(2, api.Answer{Ok: true}), own(1, api.Answer{N: v}), own(1, api.Answer{Pairs: []api.Pair{is(name, v)}}), own(2, api.Answer{Ok: true}),
				own(1, api.Answer{N: v + 1}), own(2, api.Answer{N: v + 1}), own(2, api.Answer{Ok: true}), own(1, api.Answer{Ok: true}),
			), []api.Pair{is(name, v)})
		}
	}
}

func TestPlayOfAFullBoard(t *testing.T) {
	tooMany := own(1, api.Answer{Err: api.ErrBoardFull})
	c := work([]api.Call{put(1, 1), add(1, 1), put(0, 0), add(0, 5), put(0, 5), count(), drop(2), add(1, 1), add(2, 2), put(2, 2), swap(2, 2, 2), all()})
	table := append([]api.Pair{is(0, 5), is(1, 1)}, full(64)[2:]...)
	wantPlay(t, "P9.3: a full board", full(64), c, steps(
		tooMany, tooMany, own(1, api.Answer{}), own(1, api.Answer{}), own(2, api.Answer{Ok: true}), own(1, api.Answer{N: 64}),
		own(2, api.Answer{N: 2}), own(2, api.Answer{Ok: true}), tooMany, tooMany, own(1, api.Answer{Err: api.ErrBoardNone}), own(1, api.Answer{Pairs: table}),
	), table)
}

func TestKindsThatCantBe(t *testing.T) {
	refused := own(1, api.Answer{Err: api.ErrBoardCall})
	for _, kind := range []int{lowest, -7, -1, 0, 8, 9, 100, 1<<32 + 1, 1<<40 + 2, highest} {
		for _, a := range []int{lowest, -1, 0, 1, 2, maxKey, maxKey + 1, highest} {
			call := api.Call{Kind: kind, A: a, B: 1, C: 2, Pairs: []api.Pair{is(1, 2)}}
			wantPlay(t, "P9.3: a Kind that can't be", []api.Pair{is(1, 1)}, work([]api.Call{call, put(2, 2)}), steps(refused, own(2, api.Answer{Ok: true})), []api.Pair{is(1, 1), is(2, 2)})
		}
	}
}

// A call of no name is a line without an access, and what comes behind it goes on.
func TestPlayOfNoName(t *testing.T) {
	refused := own(1, api.Answer{Err: api.ErrBoardName})
	for _, start := range [][]api.Pair{nil, {is(0, 1)}, full(64)} {
		for _, name := range noNames {
			c := work([]api.Call{get(name), put(name, 1), swap(name, 0, 1), swap(name, 0, 0), drop(name), add(name, 1), count()})
			wantPlay(t, "P9.3: no name", start, c, steps(refused, refused, refused, refused, refused, refused, own(1, api.Answer{N: len(start)})), start)
		}
	}
}

// What a call has no use for isn't looked at, nor answered.
func TestFieldsWithoutUse(t *testing.T) {
	rest := []api.Pair{is(1, 2), is(-1, 5)}
	start := []api.Pair{is(3, 2), is(5, 1)}
	c := work([]api.Call{
		{Kind: 1, A: 3, B: -9, C: lowest, Pairs: rest},
		{Kind: 2, A: 4, B: 7, C: 8, Pairs: rest},
		{Kind: 3, A: 4, B: 7, C: 9, Pairs: rest},
		{Kind: 4, A: 4, B: highest, C: -1, Pairs: rest},
		{Kind: 5, A: -1, B: 1 << 40, C: -9, Pairs: rest},
		{Kind: 6, A: 1 << 32, B: -9, C: 9, Pairs: rest},
		{Kind: 7, A: 6, B: 4, C: -4, Pairs: rest},
	})
	ok := own(2, api.Answer{Ok: true})
	wantPlay(t, "P9.3: fields", start, c, steps(
		own(1, api.Answer{N: 2}), ok, ok, own(2, api.Answer{N: 9}), own(1, api.Answer{Pairs: start}), own(1, api.Answer{N: 2}), ok,
	), append(start, is(6, 4)))
}

func TestGreatestCase(t *testing.T) {
	r := mixer(3)
	c := api.Case{Turns: []int{5, 3, 3, -1}}
	var names []int
	for i := range 80 {
		names = append(names, 2*i)
	}
	for range api.MaxWorkers {
		var calls []api.Call
		for range api.MaxCalls {
			calls = append(calls, r.call(names, true))
		}
		c.Work = append(c.Work, calls)
	}
	for _, start := range [][]api.Pair{nil, full(60), full(64)} {
		if run, _ := wantModel(t, "P9.3: the greatest case", start, c); run.Cut {
			t.Error("P9.3: the greatest case is cut")
		}
	}
	for k := range c.Work {
		for i := range c.Work[k] {
			c.Work[k][i] = put(k, i)
		}
	}
	run, table := wantModel(t, "P9.3: all put at once", nil, c)
	if run.Cut || len(table) != api.MaxWorkers {
		t.Errorf("P9.3: all put at once: cut %v, %v", run.Cut, table)
	}
}

// stops: calls of two lines and of one, and how the table is with and without them.
var stops = []struct {
	name          string
	start         []api.Pair
	call          api.Call
	lines         int
	without, with []api.Pair
}{
	{"Put", []api.Pair{is(1, 1)}, put(2, 2), 2, []api.Pair{is(1, 1)}, []api.Pair{is(1, 1), is(2, 2)}},
	{"Put of another value", []api.Pair{is(1, 1)}, put(1, 2), 2, []api.Pair{is(1, 1)}, []api.Pair{is(1, 2)}},
	{"Add", nil, add(2, 2), 2, nil, []api.Pair{is(2, 2)}},
	{"Swap", []api.Pair{is(1, 1)}, swap(1, 1, 2), 2, []api.Pair{is(1, 1)}, []api.Pair{is(1, 2)}},
	{"Drop", []api.Pair{is(1, 1)}, drop(1), 2, []api.Pair{is(1, 1)}, nil},
	{"Get", []api.Pair{is(1, 1)}, get(1), 1, nil, []api.Pair{is(1, 1)}},
	{"All", []api.Pair{is(1, 1)}, all(), 1, nil, []api.Pair{is(1, 1)}},
	{"Count", []api.Pair{is(1, 1)}, count(), 1, nil, []api.Pair{is(1, 1)}},
	{"Put of what is there", []api.Pair{is(1, 1)}, put(1, 1), 1, nil, []api.Pair{is(1, 1)}},
	{"Swap for itself", []api.Pair{is(1, 1)}, swap(1, 1, 1), 1, nil, []api.Pair{is(1, 1)}},
	{"Drop of nothing", nil, drop(1), 1, nil, nil},
	{"a full board", full(64), put(1, 1), 1, nil, full(64)},
	{"no name", nil, put(-1, 1), 1, nil, nil},
	{"no call", nil, api.Call{Kind: 8}, 1, nil, nil},
}

// A call that is stopped for good has done its lines and no more; nothing of it is there ahead of its last one.
func TestHaltsAndCutsAtEveryLine(t *testing.T) {
	for _, x := range stops {
		for lines := 1; lines <= x.lines; lines++ {
			for _, cut := range []bool{false, true} {
				c := work([]api.Call{x.call, put(9, 9)})
				c.Halt = []int{lines}
				if cut {
					c.Halt, c.Until = nil, lines
				}
				run, table := wantModel(t, "P9.3: "+x.name, x.start, c)
				open, ended, want := []api.Open{{Worker: 0, Begin: 1, Own: lines}}, 0, x.without
				if lines == x.lines {
					open, ended, want = nil, 1, x.with
				}
				if run.Cut != cut || run.Steps != lines || !slices.Equal(run.Open, open) || len(run.Answers[0]) != ended || !slices.Equal(table, want) {
					t.Errorf("P9.3: %s, stopped behind %d lines, cut %v: %+v, %v", x.name, lines, cut, run, table)
				}
			}
		}
	}
}

// Behind a worker that was halted in the midst, also in a later round, the others do all their calls, and none of them goes round.
func TestOthersGoOnBehindAHalt(t *testing.T) {
	others := []api.Call{put(3, 3), get(1), add(4, 4), swap(3, 3, 5), all(), drop(4), count(), put(1, 8), drop(1), add(1, 1)}
	lines := []int{2, 1, 2, 2, 1, 2, 1, 2, 2, 2}
	for _, call := range []api.Call{put(2, 2), add(2, 2), swap(1, 1, 2), drop(1), put(1, 2)} {
		for halt := 1; halt <= 5; halt += 2 {
			c := work([]api.Call{call}, others)
			c.Turns = []int{0, 1, 1, 0, 0, 1, 1, 1, 0, 0, 1, 1, 0}
			c.Halt = []int{halt}
			run, _ := wantModel(t, "P9.5: behind a halt", []api.Pair{is(1, 1)}, c)
			if run.Cut || len(run.Answers[0]) != 0 || len(run.Open) != 1 || run.Open[0].Own != halt || len(run.Answers[1]) != len(others) {
				t.Fatalf("P9.5: %+v halted behind %d lines: %+v", call, halt, run)
			}
			for i, a := range run.Answers[1] {
				if a.Err != api.OK || a.Own != lines[i] {
					t.Errorf("P9.5: %+v halted behind %d lines: %+v", call, halt, a)
				}
			}
		}
	}
}

func TestAgainstModel(t *testing.T) {
	rounds, ends, opens, cuts := 0, 0, 0, 0
	errs := map[api.Errno]int{}
	mixedPlays(6000, true, func(x mixed) {
		run, table := wantModel(t, "P9.3", x.start, x.c)
		for _, answers := range run.Answers {
			for _, a := range answers {
				errs[a.Err]++
				switch {
				case a.Own > 2 && a.Own%2 == 0:
					rounds++
				case a.Own > 2:
					ends++
				}
			}
		}
		opens += len(run.Open)
		if run.Cut {
			cuts++
		}
		if len(table) > api.MaxNames {
			t.Fatalf("P9.1: %+v: %v", x, table)
		}
	})
	for _, err := range []api.Errno{api.ErrBoardCall, api.ErrBoardName, api.ErrBoardNone, api.ErrBoardFull} {
		if errs[err] < 100 {
			t.Errorf("the cases are too plain: %v comes %d times", err, errs[err])
		}
	}
	if rounds < 100 || ends < 100 || opens < 100 || cuts < 100 {
		t.Errorf("the cases are too plain: %d went round, %d ended there, %d open, %d cut", rounds, ends, opens, cuts)
	}
}

// Every order of few calls' lines.
func TestEveryOrderAgainstModel(t *testing.T) {
	for _, calls := range [][][]api.Call{
		{{put(1, 1), drop(2)}, {put(2, 2), drop(1), all()}},
		{{add(1, 1), drop(1)}, {add(1, 2), swap(1, 2, 3), get(1)}},
		{{swap(5, 5, 6), swap(5, 6, 5)}, {swap(5, 5, 7), put(5, 5), drop(5)}},
		{{put(5, 5), add(3, 3), count()}, {drop(5), add(5, 5), put(3, 4)}},
	} {
		orders(2, 10, func(turns []int) {
			wantModel(t, "P9.2: every order", []api.Pair{is(5, 5)}, api.Case{Work: calls, Turns: turns})
		})
	}
	last := [][]api.Call{{add(1, 1), drop(2)}, {put(3, 3), drop(3)}, {add(5, 5)}}
	orders(3, 7, func(turns []int) {
		wantModel(t, "P9.2: every order, one name is left", full(63), api.Case{Work: last, Turns: turns})
	})
}

func TestSameEachTime(t *testing.T) {
	mixedPlays(300, true, func(x mixed) {
		run, table, err := board.Play(x.start, x.c)
		for range 5 {
			again, then, e := board.Play(x.start, x.c)
			if !sameRun(run, again) || !slices.Equal(table, then) || e != err {
				t.Fatalf("P9.3: %+v\nonce %+v %v %v\nthen %+v %v %v", x, run, table, err, again, then, e)
			}
		}
	})
}

func TestPlayKeepsToItsOwnMemory(t *testing.T) {
	mixedPlays(600, true, func(x mixed) {
		start, c := roomy(x.start), plainCase(x.c)
		run, table, _ := board.Play(start, c)
		if !untouched(start, x.start) || !slices.Equal(c.Turns, x.c.Turns) || !slices.Equal(c.Halt, x.c.Halt) {
			t.Fatalf("rule 3: Play changed what was handed in: %v, %+v", start, c)
		}
		for k := range c.Work {
			for i, call := range c.Work[k] {
				if was := x.c.Work[k][i]; call.Kind != was.Kind || call.A != was.A || call.B != was.B || call.C != was.C {
					t.Fatalf("rule 3: Play changed a call: %+v, was %+v", call, was)
				}
				c.Work[k][i] = api.Call{Kind: -99}
			}
		}
		keptRun, kept := plainRun(run), slices.Clone(table)
		writeOver(start)
		if !sameRun(run, keptRun) || !slices.Equal(table, kept) {
			t.Fatalf("rule 3: an answer hangs on what was handed in: %+v", x)
		}
		writeOver(table)
		for k, answers := range run.Answers {
			for i := range answers {
				writeOver(answers[i].Pairs)
				answers[i].Pairs = nil
				keptRun.Answers[k][i].Pairs = nil
				if !sameRun(run, keptRun) {
					t.Fatalf("rule 3: two lists of an answer share memory: %+v", x)
				}
			}
		}
		wantModel(t, "rule 3: behind answers that were written over", x.start, x.c)
	})
}

// leavesNothing tells that f leaves no goroutine behind.
func leavesNothing(t *testing.T, promise string, f func()) {
	t.Helper()
	before := runtime.NumGoroutine()
	f()
	for range 500 {
		if runtime.NumGoroutine() <= before {
			return
		}
		time.Sleep(time.Millisecond)
	}
	t.Errorf("%s: %d goroutines, %d ahead of it", promise, runtime.NumGoroutine(), before)
}

func TestPlayLeavesNothing(t *testing.T) {
	leavesNothing(t, "P9.3", func() {
		mixedPlays(200, true, func(x mixed) { board.Play(x.start, x.c) })
	})
}
