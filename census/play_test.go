package census_test

import (
	"runtime"
	"testing"
	"time"

	"skein/api"
	"skein/census"
)

func TestPlayRefuses(t *testing.T) {
	good := work([]api.Call{scan()})
	refuses := func(first []int, c api.Case, want api.Errno) {
		t.Helper()
		run, words, err := census.Play(first, c)
		if err != want || !sameRun(run, api.Run{}) || !sameSeen(words, api.Seen{}) {
			t.Errorf("P25.5: Play(%v, %+v): %+v, %v, %v, want %v", first, c, run, words, err, want)
		}
	}
	cases := []api.Case{
		{}, {Work: make([][]api.Call, 9)}, work(nil, make([]api.Call, 65)),
		{Work: good.Work, Until: -1}, {Work: good.Work, Until: lowest}, {Work: good.Work, Until: api.MaxSteps + 1}, {Work: good.Work, Until: highest},
	}
	for _, c := range append(cases, good) {
		for _, first := range [][]int{nil, {}, make([]int, 9), make([]int, 1000)} {
			refuses(first, c, api.ErrCensusMany)
		}
	}
	for _, c := range cases {
		for n := 1; n <= 8; n++ {
			refuses(firsts(n), c, api.ErrCrewCase)
		}
	}
}

// Words are told behind the run, however many workers it has.
func TestIdlePlay(t *testing.T) {
	for n := 1; n <= 8; n++ {
		for workers := 1; workers <= 8; workers++ {
			wantPlay(t, "P25.5: no calls", firsts(n), api.Case{Work: make([][]api.Call, workers)}, api.Run{Answers: make([][]api.Answer, workers)}, api.Seen{Values: firsts(n), Numbers: make([]int, n)})
		}
	}
}

// Each Kind: its lines, its answer's fields, where it goes well and where it doesn't.
func TestPlaysCalls(t *testing.T) {
	first := []int{5, 7, -9}
	wantPlay(t, "P25.5", first, by(1, update(-1), scan(), read(0), read(1), total(), api.Call{Kind: 5}, read(3), read(-1), update(0), scan(), read(1), total()), steps(1,
		own(7, number(1)), own(6, sees(5, -1, -9, 0, 1, 0)), own(1, stood(5, 0)), own(1, stood(-1, 1)), own(6, number(-5)), own(1, failed(api.ErrCensusCall)),
		own(1, failed(api.ErrCensusWorker)), own(1, failed(api.ErrCensusWorker)), own(7, number(2)), own(6, sees(5, 0, -9, 0, 2, 0)), own(1, stood(0, 2)), own(6, number(-4)),
	), api.Seen{Values: []int{5, 0, -9}, Numbers: []int{0, 2, 0}})
	wantPlay(t, "P25.5", first, by(3, update(-1), scan(), read(2), total(), api.Call{}, read(3)), steps(3,
		own(1, failed(api.ErrCensusWorker)), own(6, sees(5, 7, -9, 0, 0, 0)), own(1, stood(-9, 0)), own(6, number(3)), own(1, failed(api.ErrCensusCall)), own(1, failed(api.ErrCensusWorker)),
	), api.Seen{Values: first, Numbers: make([]int, 3)})
}

func TestKindsThatCantBe(t *testing.T) {
	for _, kind := range []int{lowest, -2, -1, 0, 5, 6, 11, 12, 13, 14, 101, 1<<32 + 1, 1<<40 + 4, highest} {
		for _, a := range []int{lowest, -1, 0, 1, 2, highest} {
			for k := range 3 {
				call := api.Call{Kind: kind, A: a, B: a, C: 2, Pairs: []api.Pair{{Key: 1, Value: 2}}}
				wantPlay(t, "P25.5: a Kind that can't be", []int{5, 7}, by(k, call, read(1)), steps(k,
					own(1, failed(api.ErrCensusCall)), own(1, stood(7, 0)),
				), api.Seen{Values: []int{5, 7}, Numbers: []int{0, 0}})
			}
		}
	}
}

// What a call has no use for isn't looked at, nor answered.
func TestFieldsWithoutUse(t *testing.T) {
	for _, n := range []int{lowest, -1, 0, 1, 5, highest} {
		pairs := []api.Pair{{Key: n, Value: n}}
		wantPlay(t, "P25.5: fields", []int{5, 7}, by(0,
			api.Call{Kind: 1, A: 3, B: n, C: n, Pairs: pairs}, api.Call{Kind: 2, A: n, B: n, C: n, Pairs: pairs}, api.Call{Kind: 3, A: 0, B: n, C: n, Pairs: pairs}, api.Call{Kind: 4, A: n, B: n, C: n, Pairs: pairs},
		), steps(0, own(5, number(1)), own(4, sees(3, 7, 1, 0)), own(1, stood(3, 1)), own(4, number(10))), api.Seen{Values: []int{3, 7}, Numbers: []int{1, 0}})
	}
}

// The greatest case: a run of it is cut at the last step that may be.
func TestGreatestCase(t *testing.T) {
	for n := 1; n <= 8; n++ {
		r := mixer(n)
		c := api.Case{Turns: []int{5, 3, 3, -1}}
		for range api.MaxWorkers {
			var calls []api.Call
			for range api.MaxCalls {
				calls = append(calls, r.call(n, manners{wild: true}))
			}
			c.Work = append(c.Work, calls)
		}
		if run, _ := wantModel(t, "P25.5: the greatest case", firsts(n), c); run.Cut != (run.Steps == api.MaxSteps) {
			t.Errorf("P25.5: the greatest case of %d words: cut %v behind %d steps", n, run.Cut, run.Steps)
		}
	}
}

func TestAgainstModel(t *testing.T) {
	counts := map[string]int{}
	errs := map[api.Errno]int{}
	for seed, how := range []manners{{}, {plain: true}, {wild: true}, {wild: true, stops: true}} {
		mixedRuns(seed, 4000, how, func(x mixed) {
			run, m := wantModel(t, "P25.5", x.first, x.c)
			for k, answers := range run.Answers {
				for i, a := range answers {
					errs[a.Err]++
					if kind := x.c.Work[k][i].Kind; kind == 2 && a.Own > 2*len(x.first) {
						counts["Scans that look again"]++
					}
				}
			}
			counts["views that are told"] += m.lent
			counts["open"] += len(run.Open)
			if run.Cut {
				counts["cut"]++
			}
		})
	}
	for _, err := range []api.Errno{api.OK, api.ErrCensusCall, api.ErrCensusWorker} {
		if errs[err] < 500 {
			t.Errorf("the cases are too plain: %v comes %d times", err, errs[err])
		}
	}
	for _, what := range []string{"Scans that look again", "views that are told", "open", "cut"} {
		if counts[what] < 500 {
			t.Errorf("the cases are too plain: %d %s", counts[what], what)
		}
	}
}

// Calls by their names, and over two censuses side by side: neither touches what is the other one's.
func TestTwoCensuses(t *testing.T) {
	lent := 0
	for seed, how := range []manners{{both: true}, {both: true, wild: true, stops: true}} {
		mixedRuns(70+seed, 3000, how, func(x mixed) {
			other := firsts(1 + (seed+len(x.c.Turns))%8)
			_, m := wantNamed(t, "P25.2", x.c, x.first, other)
			lent += m[0].lent + m[1].lent
		})
	}
	if lent < 200 {
		t.Errorf("the cases are too plain: %d views are told", lent)
	}
}

// Every order of the lines of few calls, of two workers and of three.
func TestEveryOrder(t *testing.T) {
	takesLong(t)
	for _, x := range everyOrders() {
		orders(len(x.calls), x.turns, func(list []int) {
			wantModel(t, "every order", x.first, api.Case{Work: x.calls, Turns: list})
		})
	}
}

// order: calls of which so many turns come in every order.
type order struct {
	first []int
	calls [][]api.Call
	turns int
}

func everyOrders() []order {
	return []order{
		{[]int{5}, [][]api.Call{{update(1), update(2), update(3)}, {scan(), scan()}}, 13},
		{[]int{5}, [][]api.Call{{update(1), update(2)}, {scan()}, {total(), scan()}}, 8},
		{[]int{5, 7}, [][]api.Call{{update(1), update(2)}, {update(11), scan()}}, 12},
		{[]int{5, 7}, [][]api.Call{{update(1), update(2), update(3)}, {scan(), update(11)}}, 12},
		{[]int{5, 7}, [][]api.Call{{update(1), update(2)}, {update(11)}, {scan()}}, 8},
		{[]int{5, 7}, [][]api.Call{{update(1)}, {update(11), update(12)}, {scan(), read(0)}}, 8},
		{[]int{5, 7, 9}, [][]api.Call{{update(1)}, {update(11), update(12)}, {update(21)}}, 8},
	}
}

func TestSameEachTime(t *testing.T) {
	mixedRuns(5, 300, manners{wild: true, stops: true}, func(x mixed) {
		run, words, err := census.Play(x.first, x.c)
		for range 5 {
			again, then, e := census.Play(x.first, x.c)
			if !sameRun(run, again) || !sameSeen(words, then) || e != err {
				t.Fatalf("P25.5: %+v\nonce %+v %v %v\nthen %+v %v %v", x, run, words, err, again, then, e)
			}
		}
	})
}

// leavesNothing: all goroutines have ended that came while f was at work.
func leavesNothing(t *testing.T, promise string, f func()) {
	t.Helper()
	before := runtime.NumGoroutine()
	f()
	for range 500 {
		if runtime.NumGoroutine() <= before {
			return
		}
		time.Sleep(time.Millisecond)
	}
	t.Errorf("%s: %d goroutines, %d ahead of it", promise, runtime.NumGoroutine(), before)
}

func TestPlayLeavesNothing(t *testing.T) {
	leavesNothing(t, "P25.5", func() {
		mixedRuns(7, 200, manners{wild: true, stops: true}, func(x mixed) { census.Play(x.first, x.c) })
	})
}
