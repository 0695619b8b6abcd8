package joint_test

import (
	"runtime"
	"slices"
	"testing"
	"time"

	"skein/api"
	"skein/joint"
)

func TestPlayRefuses(t *testing.T) {
	good := work([]api.Call{look()})
	refuses := func(first []int, c api.Case, want api.Errno) {
		t.Helper()
		run, values, err := joint.Play(first, c)
		if err != want || !sameRun(run, api.Run{}) || len(values) > 0 {
			t.Errorf("P26.8: Play(%v, %+v): %+v, %v, %v, want %v", first, c, run, values, err, want)
		}
	}
	cases := []api.Case{
		{}, {Work: make([][]api.Call, 9)}, work(nil, make([]api.Call, 65)),
		{Work: good.Work, Until: -1}, {Work: good.Work, Until: lowest}, {Work: good.Work, Until: api.MaxSteps + 1}, {Work: good.Work, Until: highest},
	}
	for _, c := range append(cases, good) {
		for _, first := range [][]int{nil, {}, make([]int, 65), make([]int, 1000), slices.Repeat([]int{-1}, 65)} {
			refuses(first, c, api.ErrJointMany)
		}
		for _, bad := range noValues {
			refuses([]int{bad}, c, api.ErrJointValue)
			refuses([]int{5, bad, 7}, c, api.ErrJointValue)
		}
	}
	for _, c := range cases {
		for _, n := range []int{1, 2, 64} {
			refuses(firsts(n), c, api.ErrCrewCase)
		}
	}
}

// What the cells hold is told behind the run, however many workers it has.
func TestIdlePlay(t *testing.T) {
	for _, n := range []int{1, 2, 3, 63, 64} {
		for workers := 1; workers <= 8; workers++ {
			wantPlay(t, "P26.8: no calls", firsts(n), api.Case{Work: make([][]api.Call, workers)}, api.Run{Answers: make([][]api.Answer, workers)}, firsts(n))
		}
	}
}

// Each Kind: its lines, its answer's fields, where it goes well and where it doesn't.
func TestPlaysCalls(t *testing.T) {
	first := []int{5, 7, 9}
	for k := range 8 {
		wantPlay(t, "P26.8", first, by(k,
			read(0), read(2), read(3), read(-1), change(to(0, 5, 6)), change(to(2, 9, 8), to(0, 6, 7)), change(to(0, 5, 6)), change(), change(to(3, 0, 0)), change(to(0, -1, 0)),
			move(0, 1, 3), move(1, 0, 11), move(0, 1, api.MaxIndex+1), move(0, 3, 1), look(), api.Call{}, api.Call{Kind: 5}, read(1),
		), steps(k,
			own(1, holds(5)), own(1, holds(9)), own(1, failed(api.ErrJointCell)), own(1, failed(api.ErrJointCell)), own(6, well()), own(10, well()), own(1, failed(api.ErrJointOther)), own(1, failed(api.ErrJointMany)), own(1, failed(api.ErrJointCell)), own(1, failed(api.ErrJointValue)),
			own(10, well()), own(2, failed(api.ErrJointLess)), own(1, failed(api.ErrJointValue)), own(1, failed(api.ErrJointCell)), own(14, shows(4, 10, 8)), own(1, failed(api.ErrJointCall)), own(1, failed(api.ErrJointCall)), own(1, holds(10)),
		), []int{4, 10, 8})
	}
	wantPlay(t, "P26.8", []int{5, api.MaxIndex}, by(1, move(0, 1, 1), move(1, 0, 1)), steps(1, own(2, failed(api.ErrJointValue)), own(10, well())), []int{6, api.MaxIndex - 1})
}

// Pairs that tell no entries: one is missing, or the second one's Key is another cell.
func TestPairs(t *testing.T) {
	pair := func(key, value int) api.Pair { return api.Pair{Key: key, Value: value} }
	a, b := []api.Pair{pair(0, 5), pair(0, 6)}, []api.Pair{pair(1, 7), pair(1, 8)}
	refused := func(pairs ...api.Pair) {
		t.Helper()
		for _, k := range []int{0, 1, 7} {
			wantRefused(t, "P26.8", []int{5, 7}, k, api.Call{Kind: 2, Pairs: pairs}, 1, api.ErrJointCall)
		}
	}
	refused(pair(0, 5))
	refused(pair(3, -1))
	refused(a[0], b[1])
	refused(a[0], pair(2, 6))
	refused(a[0], pair(-1, 6))
	refused(a[0], a[1], b[0])
	refused(a[0], a[1], b[0], a[1])
	refused(a[0], b[0], a[1], b[1])
	refused(a[0], b[0], b[0], b[1])
	refused(pair(lowest, 5), pair(highest, 6))
	refused(slices.Repeat(a, 64)[:127]...)
	refused(slices.Repeat(a, 65)[:129]...)
	refused(append(slices.Repeat(a, 65), a[0], b[1])...)
	refused(append([]api.Pair{pair(9, 5), pair(9, 6), pair(0, -1), pair(0, -1)}, a[0])...)
	// What tells entries is a Change of them.
	for _, k := range []int{0, 1, 7} {
		wantRefused(t, "P26.8", []int{5, 7}, k, api.Call{Kind: 2, Pairs: slices.Repeat(a, 65)}, 1, api.ErrJointMany)
		wantRefused(t, "P26.8", []int{5, 7}, k, api.Call{Kind: 2, Pairs: slices.Repeat(a, 64)}, 1, api.ErrJointCell)
		wantRefused(t, "P26.8", []int{5, 7}, k, api.Call{Kind: 2, Pairs: []api.Pair{pair(lowest, 5), pair(lowest, 6)}}, 1, api.ErrJointCell)
		wantRefused(t, "P26.8", []int{5, 7}, k, api.Call{Kind: 2}, 1, api.ErrJointMany)
		wantRefused(t, "P26.8", []int{5, 7}, k, api.Call{Kind: 2, Pairs: []api.Pair{}}, 1, api.ErrJointMany)
		wantAlone(t, "P26.8", []int{5, 7}, k, api.Call{Kind: 2, Pairs: slices.Concat(b, a)}, own(10, well()), []int{6, 8})
	}
}

func TestKindsThatCantBe(t *testing.T) {
	for _, kind := range []int{lowest, -2, -1, 0, 5, 6, 11, 12, 13, 14, 101, 1<<32 + 1, 1<<40 + 4, highest} {
		for _, a := range []int{lowest, -1, 0, 1, 2, highest} {
			for k := range 3 {
				call := api.Call{Kind: kind, A: a, B: 1, C: 2, Pairs: []api.Pair{{Key: 0, Value: 5}, {Key: 0, Value: 6}}}
				wantPlay(t, "P26.8: a Kind that can't be", []int{5, 7}, by(k, call, read(1)), steps(k,
					own(1, failed(api.ErrJointCall)), own(1, holds(7)),
				), []int{5, 7})
			}
		}
	}
}

// What a call has no use for isn't looked at, nor answered.
func TestFieldsWithoutUse(t *testing.T) {
	for _, n := range []int{lowest, -1, 0, 1, 5, highest} {
		pairs := []api.Pair{{Key: n, Value: n}}
		b := change(to(0, 5, 6))
		b.A, b.B, b.C = n, n, n
		wantPlay(t, "P26.8: fields", []int{5, 7}, by(0,
			api.Call{Kind: 1, A: 0, B: n, C: n, Pairs: pairs}, b, api.Call{Kind: 3, A: 0, B: 1, C: 2, Pairs: pairs}, api.Call{Kind: 4, A: n, B: n, C: n, Pairs: pairs},
		), steps(0, own(1, holds(5)), own(6, well()), own(10, well()), own(10, shows(4, 9))), []int{4, 9})
	}
}

// What is left under way is helped to its end by what is told behind the run: done wholly where all that it needs is there, and else not at all.
func TestLeftUnderWay(t *testing.T) {
	for n := 1; n <= 10; n++ {
		want := []int{5, 7}
		if n >= 4 {
			want = []int{3, 9}
		}
		c := by(0, move(0, 1, 2))
		c.Halt = []int{n}
		run := api.Run{Answers: [][]api.Answer{nil}, Open: []api.Open{{Worker: 0, Begin: 1, Own: n}}, Steps: n}
		if n == 10 {
			run = steps(0, own(10, well()))
		}
		wantPlay(t, "P26.8: halted", []int{5, 7}, c, run, want)
		c.Halt, c.Until, run.Cut = nil, n, n < 10
		wantPlay(t, "P26.8: cut", []int{5, 7}, c, run, want)
	}
	for n := 1; n <= 9; n++ {
		c := stepwise(work([]api.Call{change(to(0, 5, 6), to(1, 7, 8))}, []api.Call{change(to(1, 7, 9))}), 0, 2, 1, 6, 0, n)
		run := api.Run{Answers: [][]api.Answer{nil, {{Begin: 3, End: 8, Own: 6, Ok: true}}}, Open: []api.Open{{Worker: 0, Begin: 1, Own: 2 + n}}, Steps: 8 + n, Cut: true}
		wantPlay(t, "P26.8: one that isn't to be", []int{5, 7}, c, run, []int{5, 9})
	}
	// Several, in one another's way: the one that is met first isn't the one that is done.
	c := stepwise(work([]api.Call{change(to(0, 5, 6), to(1, 7, 8))}, []api.Call{change(to(1, 7, 1), to(2, 9, 2))}), 0, 2, 1, 2, 0, 2, 1, 2)
	wantPlay(t, "P26.8: several", []int{5, 7, 9}, c, api.Run{
		Answers: make([][]api.Answer, 2), Open: []api.Open{{Worker: 0, Begin: 1, Own: 4}, {Worker: 1, Begin: 3, Own: 4}}, Steps: 8, Cut: true,
	}, []int{5, 1, 2})
}

// The greatest case: a run of it is cut at the last step that may be.
func TestGreatestCase(t *testing.T) {
	for n := 1; n <= 8; n++ {
		r := mixer(n)
		c := api.Case{Turns: []int{5, 3, 3, -1}}
		for range api.MaxWorkers {
			var calls []api.Call
			for range api.MaxCalls {
				calls = append(calls, r.call(n, manners{wild: true}))
			}
			c.Work = append(c.Work, calls)
		}
		if run, _ := wantModel(t, "P26.8: the greatest case", slices.Repeat([]int{1}, n), c); run.Cut != (run.Steps == api.MaxSteps) {
			t.Errorf("P26.8: the greatest case of %d cells: cut %v behind %d steps", n, run.Cut, run.Steps)
		}
	}
	c := api.Case{Work: slices.Repeat([][]api.Call{slices.Repeat([]api.Call{look()}, api.MaxCalls)}, api.MaxWorkers)}
	if run, _ := wantModel(t, "P26.8: the greatest case", firsts(64), c); !run.Cut || run.Steps != api.MaxSteps {
		t.Errorf("P26.8: the greatest case of 64 cells: cut %v behind %d steps", run.Cut, run.Steps)
	}
}

// addWays adds up which ways lines went.
func addWays(all, more map[string]int) {
	for name, n := range more {
		all[name] += n
	}
}

func TestAgainstModel(t *testing.T) {
	takesLong(t)
	ways, errs := map[string]int{}, map[api.Errno]int{}
	for seed, how := range []manners{{}, {moves: true}, {wild: true}, {wild: true, stops: true}} {
		mixedRuns(seed, 4000, how, func(x mixed) {
			run, m := wantModel(t, "P26.8", x.first, x.c)
			addWays(ways, m.ways)
			for _, answers := range run.Answers {
				for _, a := range answers {
					errs[a.Err]++
				}
			}
			ways["open"] += len(run.Open)
			if run.Cut {
				ways["cut"]++
			}
		})
	}
	for _, err := range []api.Errno{api.OK, api.ErrJointCall, api.ErrJointMany, api.ErrJointCell, api.ErrJointValue, api.ErrJointOther, api.ErrJointLess} {
		if errs[err] < 300 {
			t.Errorf("the cases are too plain: %v comes %d times", err, errs[err])
		}
	}
	for _, name := range []string{
		"open", "cut", "A again", "help 1 deep", "help 2 deep", "a load that found a descriptor 1 times", "a load that found a descriptor 2 times",
		"1: 1, the first entry", "1: 1, the later entry", "1: 2, the first entry", "1: 2, the later entry",
		"3: this one", "3: another one", "3: another word", "4: from 0 to 1", "4: from 0 to 2", "4: from 1 to 1", "4: from 1 to 2", "4: from 2 to 2",
		"6: 1, lost", "6: 1, won", "6: 2, lost", "6: 2, won",
	} {
		if ways[name] < 100 {
			t.Errorf("the cases are too plain: %d %s", ways[name], name)
		}
	}
	for _, name := range []string{"2: done where the status is 2", "3: the old word again"} {
		if ways[name] < 5 {
			t.Errorf("the cases are too plain: %d %s", ways[name], name)
		}
	}
}

// What stands in all words, and the statuses, behind each step.
func TestFilms(t *testing.T) {
	takesLong(t)
	for seed, how := range []manners{{}, {moves: true}, {wild: true}, {wild: true, stops: true}} {
		mixedRuns(seed+10, 1500, how, func(x mixed) {
			wantNamed(t, "P26.3", filmed(x.c, 150), x.first)
		})
	}
}

// Calls by their names, and over two Cells side by side: neither touches what is the other one's, nor do descriptors of the one count in the other one.
func TestTwoCells(t *testing.T) {
	takesLong(t)
	for seed, how := range []manners{{both: true}, {both: true, wild: true, stops: true}} {
		mixedRuns(70+seed, 2000, how, func(x mixed) {
			wantNamed(t, "P26.2", filmed(x.c, 100), x.first, slices.Repeat([]int{1}, 5))
			wantNamed(t, "P26.2", x.c, x.first, slices.Repeat([]int{0, 1}, 32))
		})
	}
	b := newReal(t, []int{5, 7}, []int{5, 7})
	makes(t, b, 0, 1024, 0)
	if ok, err := b.all[1].Move(nil, 0, 1, 2); !ok || err != api.OK {
		t.Errorf("P26.2: descriptors of other Cells count: %v, %v", ok, err)
	}
	wantValues(t, "P26.2: two Cells", b.all[1], []int{3, 9})
}

func TestSameEachTime(t *testing.T) {
	mixedRuns(5, 300, manners{wild: true, stops: true}, func(x mixed) {
		run, values, err := joint.Play(x.first, x.c)
		for range 5 {
			again, then, e := joint.Play(x.first, x.c)
			if !sameRun(run, again) || !slices.Equal(values, then) || e != err {
				t.Fatalf("P26.8: %+v\nonce %+v %v %v\nthen %+v %v %v", x, run, values, err, again, then, e)
			}
		}
	})
}

// Alone all calls are worker 0's, all lines of each at once.
func TestAlone(t *testing.T) {
	for n := 1; n <= 8; n++ {
		first := slices.Repeat([]int{1, 0, 2}, 3)[:n]
		b, m := newReal(t, first), newModel(first)
		r := mixer(n)
		for range 400 {
			c := r.call(n, manners{wild: true})
			if a, want := b.Do(nil, c), m.alone(c); !sameAnswer(a, want) || !slices.Equal(b.frame(), m.frame()) {
				t.Fatalf("rule 10: of %d cells: %+v: %+v, %v, want %+v, %v", n, c, a, b.frame(), want, m.frame())
			}
		}
	}
}

// leavesNothing: all goroutines have ended that came while f was at work.
func leavesNothing(t *testing.T, promise string, f func()) {
	t.Helper()
	before := runtime.NumGoroutine()
	f()
	for range 500 {
		if runtime.NumGoroutine() <= before {
			return
		}
		time.Sleep(time.Millisecond)
	}
	t.Errorf("%s: %d goroutines, %d ahead of it", promise, runtime.NumGoroutine(), before)
}

func TestPlayLeavesNothing(t *testing.T) {
	leavesNothing(t, "P26.8", func() {
		mixedRuns(7, 200, manners{wild: true, stops: true}, func(x mixed) { joint.Play(x.first, x.c) })
	})
}
