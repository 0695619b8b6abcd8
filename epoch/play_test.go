package epoch_test

import (
	"runtime"
	"slices"
	"testing"
	"time"

	"skein/api"
	"skein/epoch"
)

func TestPlayRefuses(t *testing.T) {
	good, bad := work([]api.Call{enter()}), api.Case{}
	refuses := func(slots, workers int, c api.Case, want api.Errno) {
		t.Helper()
		run, rows, err := epoch.Play(slots, workers, c)
		if err != want || !sameRun(run, api.Run{}) || len(rows) != 0 {
			t.Errorf("P11.9: Play(%d, %d, %+v): %+v, %v, %v, want %v", slots, workers, c, run, rows, err, want)
		}
	}
	cases := []api.Case{
		bad,
		{Work: make([][]api.Call, 9)},
		work(nil, make([]api.Call, 65)),
		{Work: good.Work, Until: -1},
		{Work: good.Work, Until: lowest},
		{Work: good.Work, Until: api.MaxSteps + 1},
		{Work: good.Work, Until: highest},
	}
	for workers := range workersOf {
		for _, slots := range noSizes {
			refuses(slots, workers, good, api.ErrPoolMany)
			for _, c := range cases {
				refuses(slots, workers, c, api.ErrPoolMany)
			}
		}
		for _, c := range cases {
			refuses(1, workers, c, api.ErrCrewCase)
			refuses(4096, workers, c, api.ErrCrewCase)
		}
	}
}

func TestIdlePlay(t *testing.T) {
	for given, workers := range workersOf {
		for _, slots := range []int{1, 2, 64, 4095, 4096} {
			wantPlay(t, "P11.9: no calls", slots, given, work(nil, nil), api.Run{Answers: [][]api.Answer{nil, nil}}, newState(slots, workers).rows())
		}
	}
}

// own: an answer in so many lines.
func own(lines int, a api.Answer) api.Answer {
	a.Own = lines
	return a
}

// steps: a run of one worker, its answers one behind the other.
func steps(answers ...api.Answer) api.Run {
	at := 0
	for i := range answers {
		answers[i].Begin, answers[i].End = at+1, at+answers[i].Own
		at += answers[i].Own
	}
	return api.Run{Answers: [][]api.Answer{answers}, Steps: at}
}

// Each Kind: its lines, its answer's fields, where it goes well and where it doesn't; the rows behind it.
func TestPlaysCalls(t *testing.T) {
	const out, none = api.ErrEpochOut, api.ErrEpochWorker
	c := work([]api.Call{
		leave(), enter(), enter(), load(), stalled(), fresh(), fresh(), fresh(), advance(), advance(), stalled(), load(), collect(),
		leave(), leave(), leave(), advance(), collect(), collect(), bury(0), bury(1), bury(2), bury(-1), bury(3), fresh(),
	})
	wantPlay(t, "P11.9", 2, 3, c, steps(
		own(1, failed(out)), own(2, good()), own(1, good()), own(1, counted(1)), own(4, good()), own(4, counted(1)), own(4, counted(2)), own(1, failed(api.ErrPoolFull)),
		own(5, good()), own(2, api.Answer{}), own(4, api.Answer{Ok: true, Ints: []int{0}}), own(1, counted(2)), own(1, counted(0)),
		own(1, good()), own(1, good()), own(1, failed(out)), own(5, good()), own(9, counted(2)), own(1, counted(0)),
		own(1, failed(none)), own(1, good()), own(1, good()), own(1, failed(none)), own(1, failed(none)), own(4, counted(2)),
	), [][]int{{3, 1}, {0, 0, 0}, {2}, nil, nil})
}

// Whoever is no worker of it is refused by one line, whatever it calls; a Take isn't done then, nor told.
func TestPlayOfNoWorkers(t *testing.T) {
	calls := []api.Call{enter(), leave(), fresh(), advance(), collect(), stalled(), load(), bury(0), bury(1), bury(7), bury(-1), {Kind: 9}, {Kind: 0}}
	for _, given := range []int{lowest, 0, 1, 2, 3, 7} {
		workers := workersOf[given]
		for k := workers; k < 8; k++ {
			for _, slots := range []int{1, 2} {
				c := api.Case{Work: make([][]api.Call, k+1)}
				c.Work[0], c.Work[k] = []api.Call{fresh()}, calls
				c.Turns = make([]int, 4)
				run, _ := wantModel(t, "P11.9: no worker of it", slots, given, c)
				for i, a := range run.Answers[k] {
					want := failed(api.ErrEpochWorker)
					if i >= 11 {
						want = failed(api.ErrEpochCall)
					}
					if !sameAnswer(a, want) || a.Own != 1 {
						t.Errorf("P11.9: worker %d of %d: %+v: %+v", k, workers, calls[i], a)
					}
				}
			}
		}
	}
	// A pool that is full is told to a worker of it alone.
	c := work([]api.Call{fresh(), fresh()}, []api.Call{fresh()})
	c.Turns = make([]int, 5)
	wantPlay(t, "P11.9: ErrEpochWorker ahead of Take's", 1, 1, c, api.Run{Steps: 6, Answers: [][]api.Answer{
		{{Begin: 1, End: 4, Own: 4, Ok: true, N: 1}, {Begin: 5, End: 5, Own: 1, Err: api.ErrPoolFull}},
		{{Begin: 6, End: 6, Own: 1, Err: api.ErrEpochWorker}},
	}}, [][]int{{1, 0}, {0}, {1}})
}

func TestKindsThatCantBe(t *testing.T) {
	for _, kind := range []int{lowest, -8, -1, 0, 9, 10, 101, 102, 1<<32 + 1, 1<<40 + 1, highest} {
		for _, a := range []int{lowest, -1, 0, 1, word(1, 1), highest} {
			call := api.Call{Kind: kind, A: a, B: 1, C: 2, Pairs: []api.Pair{{Key: 1, Value: 2}}}
			wantPlay(t, "P11.9: a Kind that can't be", 2, 2, work([]api.Call{enter(), call, load()}), steps(
				own(2, good()), own(1, failed(api.ErrEpochCall)), own(1, counted(1)),
			), [][]int{{1, 2}, {1, 0}, nil, nil})
		}
	}
}

// What a call has no use for isn't looked at, nor answered.
func TestFieldsWithoutUse(t *testing.T) {
	var calls []api.Call
	for kind := 1; kind <= 8; kind++ {
		for _, n := range []int{lowest, -1, 0, 1, 5, highest} {
			call := api.Call{Kind: kind, A: n, B: n, C: -n, Pairs: []api.Pair{{Key: n, Value: n}}}
			if kind == 8 {
				call.A = 1
			}
			calls = append(calls, call)
		}
	}
	plain := slices.Clone(calls)
	for i, call := range calls {
		plain[i] = api.Call{Kind: call.Kind}
		if call.Kind == 8 {
			plain[i].A = 1
		}
	}
	for _, slots := range []int{1, 10} {
		m := newModel(slots, 2)
		run := modelRun(work(plain), m.begin(true))
		wantPlay(t, "P11.9: fields", slots, 2, work(calls), run, m.state().rows())
	}
}

// The rows: now and how many are free, all at[j], of each worker of the epoch (not: of the case) what waits, each in the order in which it was retired.
func TestRows(t *testing.T) {
	c := work(
		[]api.Call{fresh(), fresh(), enter(), advance()},
		nil,
		[]api.Call{fresh(), enter(), fresh()},
	)
	c.Turns = slices.Concat([]int{0, 0, 0, 0}, slices.Repeat([]int{1}, 10), make([]int, 20))
	wantPlay(t, "P11.9: rows", 9, 5, c, api.Run{Steps: 4 + 10 + 4 + 2 + 7, Answers: [][]api.Answer{
		{{Begin: 1, End: 4, Own: 4, Ok: true, N: 1}, {Begin: 15, End: 18, Own: 4, Ok: true, N: 4}, {Begin: 19, End: 20, Own: 2, Ok: true}, {Begin: 21, End: 27, Own: 7, Ok: true}},
		nil,
		{{Begin: 5, End: 8, Own: 4, Ok: true, N: 2}, {Begin: 9, End: 10, Own: 2, Ok: true}, {Begin: 11, End: 14, Own: 4, Ok: true, N: 3}},
	}}, [][]int{{2, 5}, {1, 0, 1, 0, 0}, {1, 4}, nil, {2, 3}, nil, nil})
}

// The slots' indexes are told up to the last slot, of later generations too.
func TestRowsOfGreatPools(t *testing.T) {
	c := api.Case{Work: make([][]api.Call, 8)}
	for k := range c.Work {
		c.Work[k] = many(64, fresh())
	}
	_, left := wantModel(t, "P11.9: many wait", 4096, 8, c)
	if len(left.free) != 4096-8*64 {
		t.Errorf("P11.9: %d are free", len(left.free))
	}
	again := []api.Call{fresh(), advance(), advance(), collect()}
	wantPlay(t, "P11.9: of a later generation", 1, 1, work(append(slices.Repeat(again, 15), fresh())), steps(append(slices.Repeat([]api.Answer{
		own(4, counted(1)), own(3, good()), own(3, good()), own(5, counted(1)),
	}, 15), own(4, counted(1)))...), [][]int{{31, 0}, {0}, {1}})
}

func TestFirstExampleOfPlay(t *testing.T) {
	c := work([]api.Call{enter(), leave()}, []api.Call{fresh(), advance(), advance(), collect(), advance(), advance(), collect(), fresh()})
	c.Turns = slices.Concat([]int{0, 0}, slices.Repeat([]int{1}, 4+4+2+1), []int{0})
	run, _ := wantModel(t, "example 1", 3, 2, c)
	want := []api.Answer{counted(1), good(), {}, counted(0), good(), good(), counted(1), counted(1)}
	for i, a := range run.Answers[1] {
		if !sameAnswer(a, want[i]) {
			t.Errorf("example 1: call %d: %+v, want %+v", i, a, want[i])
		}
	}
	if _, rows, err := epoch.Play(3, 2, c); err != api.OK || !sameLists(rows, [][]int{{4, 2}, {0, 0}, nil, {1}}) {
		t.Errorf("example 1: %v, %v", rows, err)
	}
}

func TestGreatestCase(t *testing.T) {
	r := mixer(3)
	c := api.Case{Turns: []int{5, 3, 3, -1}}
	for range api.MaxWorkers {
		var calls []api.Call
		for range api.MaxCalls {
			calls = append(calls, r.call(4096, 8, manners{wild: true}))
		}
		c.Work = append(c.Work, calls)
	}
	for _, slots := range []int{1, 20, api.MaxSlots} {
		if run, _ := wantModel(t, "P11.9: the greatest case", slots, api.MaxWorkers, c); run.Cut {
			t.Error("P11.9: the greatest case is cut")
		}
	}
}

// stops: calls behind others, all of worker 0; how many lines they have, and what there is behind each of them.
type stop struct {
	name  string
	ahead []api.Call
	call  api.Call
	rows  [][][]int
}

func stops() []stop {
	rows := func(now, free, at int, list ...int) [][]int { return [][]int{{now, free}, {at, 0}, list, nil} }
	first := rows(1, 2, 0)
	within := rows(1, 2, 1)
	gone := []api.Call{fresh(), fresh(), advance(), advance()}
	full := rows(3, 0, 0, 1, 2)
	half := rows(3, 1, 0, 2)
	return []stop{
		{"Enter", nil, enter(), [][][]int{first, within}},
		{"Enter deeper", []api.Call{enter()}, enter(), [][][]int{within}},
		{"Leave", []api.Call{enter()}, leave(), [][][]int{first}},
		{"Leave of who isn't within", nil, leave(), [][][]int{first}},
		{"a Take and a Retire", nil, fresh(), [][][]int{first, first, rows(1, 1, 0), rows(1, 1, 0, 1)}},
		{"Advance", nil, advance(), [][][]int{first, first, first, rows(2, 2, 0)}},
		{"Collect of nothing", nil, collect(), [][][]int{first}},
		{"Collect", gone, collect(), [][][]int{full, full, full, full, half, half, half, half, rows(3, 2, 0)}},
		{"Stalled", nil, stalled(), [][][]int{first, first, first}},
		{"Load", nil, load(), [][][]int{first}},
		{"Bury", []api.Call{enter()}, bury(1), [][][]int{within}},
		{"a Bury that is refused", nil, bury(0), [][][]int{first}},
		{"no call", nil, api.Call{Kind: 9}, [][][]int{first}},
	}
}

// A call that is stopped for good has done its lines and no more.
func TestHaltsAndCutsAtEveryLine(t *testing.T) {
	for _, x := range stops() {
		ahead := modelRun(work(x.ahead), newModel(2, 2).begin(true)).Steps
		for at := 1; at <= len(x.rows); at++ {
			for _, cut := range []bool{false, true} {
				c := work(append(slices.Clone(x.ahead), x.call, load()))
				c.Halt = []int{ahead + at}
				if cut {
					c.Halt, c.Until = nil, ahead+at
				}
				run, left := wantModel(t, "P11.9: "+x.name, 2, 2, c)
				open, ended := []api.Open{{Worker: 0, Begin: ahead + 1, Own: at}}, len(x.ahead)
				if at == len(x.rows) {
					open, ended = nil, ended+1
				}
				if run.Cut != cut || run.Steps != ahead+at || !slices.Equal(run.Open, open) || len(run.Answers[0]) != ended || !sameLists(left.rows(), x.rows[at-1]) {
					t.Errorf("P11.9: %s, stopped behind %d lines, cut %v: %+v, %v, want %v", x.name, at, cut, run, left.rows(), x.rows[at-1])
				}
			}
		}
	}
}

// Behind a worker that was halted in the midst the others do all their calls, in as many lines as ever.
func TestOthersGoOnBehindAHalt(t *testing.T) {
	for _, x := range stops() {
		ahead := modelRun(work(x.ahead), newModel(4, 2).begin(true)).Steps
		for at := range len(x.rows) {
			c := work(append(slices.Clone(x.ahead), x.call), []api.Call{enter(), fresh(), advance(), leave(), bury(0), advance(), advance(), advance(), collect(), stalled()})
			c.Turns, c.Halt = make([]int, ahead+at), []int{ahead + at}
			run, left := wantModel(t, "P11.9: behind a halt", 4, 2, c)
			if ahead+at == 0 {
				continue
			}
			if run.Cut || len(run.Answers[1]) != 10 {
				t.Fatalf("P11.9: %s, halted behind %d lines: %+v", x.name, at, run)
			}
			for i, a := range run.Answers[1] {
				if i > 4 && i < 8 && !a.Ok || a.Err != api.OK {
					t.Errorf("P11.12: %s, halted behind %d lines: call %d: %+v", x.name, at, i, a)
				}
			}
			if len(left.lists[0])+len(left.lists[1]) != 0 || left.at[0] != 0 {
				t.Errorf("P11.12: %s, halted behind %d lines: %+v", x.name, at, left)
			}
		}
	}
}

func TestAgainstModel(t *testing.T) {
	counts := map[string]int{}
	errs := map[api.Errno]int{}
	for _, how := range []manners{{}, {wild: true}, {wild: true, buries: true}} {
		mixedPlays(4000, how, func(x mixed) {
			run, left := wantModel(t, "P11.9", x.slots, x.workers, x.c)
			for k, answers := range run.Answers {
				for i, a := range answers {
					errs[a.Err]++
					switch kind := x.c.Work[k][i].Kind; {
					case kind == 3 && a.Own > 4:
						counts["Takes that went round"]++
					case kind == 4 && !a.Ok && a.Own == len(left.at)+2:
						counts["Advances that came late"]++
					case kind == 4 && !a.Ok && a.Err == api.OK:
						counts["Advances that somebody was in the way of"]++
					case kind == 5 && a.N > 1:
						counts["Collects of several"]++
					case kind == 5 && a.Own > 1+4*a.N:
						counts["Collects that went round"]++
					case kind == 6 && len(a.Ints) > 1:
						counts["Stalleds of several"]++
					case kind == 8 && a.Ok:
						counts["Burys"]++
					}
				}
			}
			counts["open"] += len(run.Open)
			if run.Cut {
				counts["cut"]++
			}
		})
	}
	for _, err := range []api.Errno{api.OK, api.ErrEpochCall, api.ErrEpochWorker, api.ErrEpochOut, api.ErrPoolFull} {
		if errs[err] < 100 {
			t.Errorf("the cases are too plain: %v comes %d times", err, errs[err])
		}
	}
	for _, what := range []string{
		"Takes that went round", "Advances that came late", "Advances that somebody was in the way of", "Collects of several", "Collects that went round", "Stalleds of several", "Burys", "open", "cut",
	} {
		if counts[what] < 20 {
			t.Errorf("the cases are too plain: %d %s", counts[what], what)
		}
	}
}

// Every order of the lines of few calls.
func TestEveryOrder(t *testing.T) {
	for _, calls := range [][][]api.Call{
		{{enter(), advance(), leave()}, {advance(), advance()}},
		{{enter(), stalled(), leave()}, {advance(), enter(), stalled()}},
		{{advance(), load()}, {advance(), enter(), leave(), enter()}},
		{{fresh(), enter(), leave(), collect()}, {advance(), advance()}},
		{{fresh(), advance(), advance(), collect()}, {enter(), leave(), enter()}},
	} {
		orders(2, 11, func(turns []int) {
			wantModel(t, "every order", 2, 2, api.Case{Work: calls, Turns: turns})
		})
	}
	for _, calls := range [][][]api.Call{
		{{fresh(), collect()}, {fresh(), collect()}},
		{{collect()}, {fresh(), fresh()}},
		{{collect()}, {collect()}},
		{{collect()}, {advance(), collect()}},
	} {
		// Both have waited long enough, so that both Collects give.
		first := []api.Call{fresh(), advance(), advance()}
		c := work(append(slices.Clone(first), calls[0]...), append([]api.Call{fresh()}, calls[1]...))
		ahead := append(slices.Repeat([]int{1}, 4), make([]int, 12)...)
		orders(2, 10, func(turns []int) {
			c.Turns = append(slices.Clone(ahead), turns...)
			wantModel(t, "every order", 3, 2, c)
		})
	}
	orders(3, 7, func(turns []int) {
		calls := [][]api.Call{{enter(), leave()}, {advance(), advance()}, {stalled(), enter(), load()}}
		wantModel(t, "every order", 1, 3, api.Case{Work: calls, Turns: turns})
	})
}

// A worker that is halted at any line, and buried at any moment behind that.
func TestEveryOrderOfABury(t *testing.T) {
	for _, dead := range [][]api.Call{
		{fresh(), enter(), advance()},
		{enter(), enter(), fresh()},
		{fresh(), advance(), advance(), collect()},
	} {
		for halt := 1; halt <= 15; halt++ {
			for _, others := range [][][]api.Call{
				{{bury(0), collect()}, {advance(), fresh(), advance()}},
				{{fresh(), bury(0), advance()}, {stalled(), bury(0), collect()}},
			} {
				orders(2, 6, func(turns []int) {
					c := work(dead, others[0], others[1])
					c.Halt, c.Turns = []int{halt}, make([]int, halt)
					for _, turn := range turns {
						c.Turns = append(c.Turns, turn)
					}
					wantModel(t, "P11.12: every order", 3, 3, c)
				})
			}
		}
	}
}

func TestSameEachTime(t *testing.T) {
	mixedPlays(300, manners{wild: true, buries: true}, func(x mixed) {
		run, rows, err := epoch.Play(x.slots, x.workers, x.c)
		for range 5 {
			again, then, e := epoch.Play(x.slots, x.workers, x.c)
			if !sameRun(run, again) || !sameLists(rows, then) || e != err {
				t.Fatalf("P11.9: %+v\nonce %+v %v %v\nthen %+v %v %v", x, run, rows, err, again, then, e)
			}
		}
	})
}

// roomy copies a list into one with spare room, in which something stands.
func roomy(list []int) []int {
	room := append(slices.Clone(list), 71, 72, 73)
	return room[:len(list)]
}

// untouched tells whether a roomy list is as it was.
func untouched(list, was []int) bool {
	return slices.Equal(list, was) && slices.Equal(list[:len(list)+3][len(list):], []int{71, 72, 73})
}

func TestPlayKeepsToItsOwnMemory(t *testing.T) {
	mixedPlays(600, manners{wild: true}, func(x mixed) {
		c := plainCase(x.c)
		c.Turns, c.Halt = roomy(c.Turns), roomy(c.Halt)
		run, rows, _ := epoch.Play(x.slots, x.workers, c)
		if !untouched(c.Turns, x.c.Turns) || !untouched(c.Halt, x.c.Halt) {
			t.Fatalf("rule 3: Play changed what was handed in: %+v", c)
		}
		for k := range c.Work {
			for i, call := range c.Work[k] {
				if was := x.c.Work[k][i]; call.Kind != was.Kind || call.A != was.A || call.B != was.B || call.C != was.C {
					t.Fatalf("rule 3: Play changed a call: %+v, was %+v", call, was)
				}
				c.Work[k][i] = api.Call{Kind: -99}
			}
		}
		keptRun, kept := plainRun(run), cloned(rows)
		writeOver(c.Turns)
		writeOver(c.Halt)
		if !sameRun(run, keptRun) || !sameLists(rows, kept) {
			t.Fatalf("rule 3: an answer hangs on what was handed in: %+v", x)
		}
		for i := range rows {
			writeOver(rows[i])
			rows[i], kept[i] = nil, nil
			if !sameLists(rows, kept) || !sameRun(run, keptRun) {
				t.Fatalf("rule 3: two rows share memory: %+v", x)
			}
		}
		for k, answers := range run.Answers {
			for i := range answers {
				writeOver(answers[i].Ints)
				answers[i].Ints = nil
				keptRun.Answers[k][i].Ints = nil
				if !sameRun(run, keptRun) {
					t.Fatalf("rule 3: two lists of an answer share memory: %+v", x)
				}
			}
		}
		wantModel(t, "rule 3: behind answers that were written over", x.slots, x.workers, x.c)
	})
}

func cloned(rows [][]int) [][]int {
	var list [][]int
	for _, row := range rows {
		list = append(list, slices.Clone(row))
	}
	return list
}

func TestPlayLeavesNothing(t *testing.T) {
	before := runtime.NumGoroutine()
	mixedPlays(200, manners{wild: true, buries: true}, func(x mixed) { epoch.Play(x.slots, x.workers, x.c) })
	for range 500 {
		if runtime.NumGoroutine() <= before {
			return
		}
		time.Sleep(time.Millisecond)
	}
	t.Errorf("P11.9: %d goroutines, %d ahead of it", runtime.NumGoroutine(), before)
}
