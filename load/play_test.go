package load_test

import (
	"fmt"
	"runtime"
	"slices"
	"testing"
	"time"

	"skein/api"
	"skein/load"
)

func TestPlayRefuses(t *testing.T) {
	fine := work([]api.Call{ready(0)})
	refuses := func(s api.Setup, c api.Case, want api.Errno) {
		t.Helper()
		run, rows, err := load.Play(s, c)
		if err != want || !sameRun(run, api.Run{}) || len(rows) != 0 {
			t.Errorf("P15.5: Play(%+v, %+v): %+v, %v, %v, want %v", s, c, run, rows, err, want)
		}
	}
	cases := []api.Case{
		{},
		{Work: make([][]api.Call, 9)},
		work(nil, make([]api.Call, 65)),
		{Work: fine.Work, Until: -1},
		{Work: fine.Work, Until: lowest},
		{Work: fine.Work, Until: api.MaxSteps + 1},
		{Work: fine.Work, Until: highest},
	}
	for _, slots := range noSlots {
		for _, leases := range append(noLeases, 1, 64) {
			for _, n := range []int{lowest, 0, 1, 64, 65, highest} {
				refuses(api.Setup{Parts: n, Slots: slots, Leases: leases}, fine, api.ErrPoolMany)
				refuses(api.Setup{Parts: n, Slots: slots, Leases: leases}, cases[0], api.ErrPoolMany)
			}
		}
	}
	for _, leases := range noLeases {
		for _, n := range []int{lowest, 0, 1, 64, 65, highest} {
			for _, c := range append(cases, fine) {
				refuses(api.Setup{Parts: n, Slots: 1, Leases: leases}, c, api.ErrClockMany)
			}
			refuses(api.Setup{Parts: n, Slots: mostSlots, Leases: leases}, fine, api.ErrClockMany)
		}
	}
	for _, n := range noParts {
		for _, c := range append(cases, fine) {
			refuses(api.Setup{Parts: n, Slots: 1, Leases: 1}, c, api.ErrLoadPart)
			refuses(api.Setup{Parts: n, Slots: 9, Leases: 64, Source: pairs(5, 5), Fails: -1}, c, api.ErrLoadPart)
		}
	}
	for _, c := range cases {
		refuses(api.Setup{Parts: 1, Slots: 1, Leases: 1}, c, api.ErrCrewCase)
		refuses(api.Setup{Parts: 64, Slots: 9, Leases: 64}, c, api.ErrCrewCase)
	}
}

// All sizes that may be; a Play without calls tells what there is at first.
func TestIdlePlay(t *testing.T) {
	for _, slots := range []int{1, 2, mostSlots} {
		for _, leases := range []int{1, 64} {
			for _, n := range []int{1, 2, 63, mostParts} {
				s := api.Setup{Parts: n, Slots: slots, Leases: leases, Source: pairs(5, 50), Fails: 1}
				rows := append([][]int{make([]int, n), {slots, 0}}, make([][]int, n)...)
				wantPlay(t, "P15.5: no calls", mixed{s, work(nil, nil)}, api.Run{Answers: [][]api.Answer{nil, nil}}, rows)
			}
		}
	}
}

// steps: a run of one worker, its answers one behind the other.
func steps(answers ...api.Answer) api.Run {
	at := 0
	for i := range answers {
		answers[i].Begin, answers[i].End = at+1, at+answers[i].Own
		at += answers[i].Own
	}
	return api.Run{Answers: [][]api.Answer{answers}, Steps: at}
}

// Each Kind: its lines, its answer's fields, where it goes well and where it doesn't; the rows behind it.
func TestPlaysCalls(t *testing.T) {
	s := failing(parts(3, 9, 5, 50, mostKey, 9, 7, 70, 5, 51), 1)
	wantPlay(t, "P15.5", mixed{s, work([]api.Call{
		tell(0), ask(0), ready(0), ask(0), tell(0), wait(0), ask(0), tell(0), ready(0), wait(0),
		wait(1), ready(1), tell(1), ask(2), tell(2), ready(2), wait(2), ready(2), ask(2), tell(2),
		ready(3), wait(3), ask(3), tell(3), ready(-1), wait(-1), ask(-1), tell(-1), {Kind: 5}, {Kind: 0},
	})}, steps(
		own(1, failed(none)), own(1, is(0)), own(3, failed(fails)), own(1, is(0)), own(1, failed(none)),
		own(exampleOwn, good()), own(1, is(2)), own(6, first1(5, 51, 7, 70)), own(1, good()), own(1, good()),
		own(3, failed(fails)), own(8, good()), own(3, first1()), own(1, is(0)), own(1, failed(none)),
		own(3, failed(fails)), own(11, good()), own(1, good()), own(1, is(2)), own(4, first1(mostKey, 9)),
		own(1, failed(noPart)), own(1, failed(noPart)), own(1, failed(noPart)), own(1, failed(noPart)),
		own(1, failed(noPart)), own(1, failed(noPart)), own(1, failed(noPart)), own(1, failed(noPart)), own(1, failed(noCall)), own(1, failed(noCall)),
	), [][]int{{2, 2, 2}, {2, 0}, {3}, {1}, {7}})
}

func TestExamplesOfPlay(t *testing.T) {
	wantPlay(t, "example 1", mixed{example(9), work([]api.Call{ready(0), ask(0), tell(0), ready(0)})},
		steps(own(exampleOwn, good()), own(1, is(2)), own(6, first1(5, 51, 7, 70)), own(1, good())), [][]int{{2}, {5, 0}, {3}})
	c := work([]api.Call{ready(0)}, []api.Call{ready(0)})
	c.Turns = []int{0, 1, 1, 0, 0}
	wantPlay(t, "example 2", mixed{example(9), c}, api.Run{Steps: 37, Answers: [][]api.Answer{
		{{Begin: 1, End: 5, Own: 3, Err: busy}}, {{Begin: 2, End: 37, Own: exampleOwn, Ok: true}},
	}}, [][]int{{2}, {5, 0}, {3}})
	c.Work[0][0] = wait(0)
	wantPlay(t, "example 2, Wait", mixed{example(9), c}, api.Run{Steps: 69, Answers: [][]api.Answer{
		{{Begin: 1, End: 69, Own: 35, Ok: true}}, {{Begin: 2, End: 68, Own: exampleOwn, Ok: true}},
	}}, [][]int{{2}, {5, 0}, {3}})
	wantPlay(t, "example 3", mixed{failing(example(9), 1), work([]api.Call{ready(0), ready(0)})},
		steps(own(3, failed(fails)), own(exampleOwn, good())), [][]int{{2}, {5, 0}, {3}})
	wantPlay(t, "example 3: two slots", mixed{example(2), work([]api.Call{ready(0), ask(0)})},
		steps(own(19, failed(full)), own(1, is(0))), [][]int{{0}, {2, 0}, {}})
}

func TestKindsThatCantBe(t *testing.T) {
	for _, kind := range noKinds {
		for _, a := range []int{lowest, -1, 0, 1, 4, highest} {
			call := api.Call{Kind: kind, A: a, B: 1, C: 2, Pairs: pairs(1, 2)}
			wantPlay(t, "P15.5: a Kind that can't be", mixed{parts(1, 2, 5, 50), work([]api.Call{call, ready(0), call, tell(0)})},
				steps(own(1, failed(noCall)), own(11, good()), own(1, failed(noCall)), own(4, first1(5, 50))), [][]int{{2}, {0, 0}, {2}})
		}
	}
}

func TestPartsThatCantBe(t *testing.T) {
	for _, n := range []int{1, 2, mostParts} {
		for _, part := range notOf(n) {
			run, rows, err := load.Play(parts(n, 9, 5, 50), work([]api.Call{ready(part), wait(part), ask(part), tell(part)}))
			want := steps(own(1, failed(noPart)), own(1, failed(noPart)), own(1, failed(noPart)), own(1, failed(noPart)))
			if err != api.OK || !sameRun(run, want) || !slices.Equal(rows[0], make([]int, n)) || !slices.Equal(rows[1], []int{9, 0}) {
				t.Errorf("P15.5: the part %d of %d: %+v, %v, %v", part, n, run, rows, err)
			}
		}
	}
}

// What a call, and what a setup, has no use for isn't looked at, nor answered.
func TestFieldsWithoutUse(t *testing.T) {
	plain := []api.Call{tell(0), ready(0), ready(0), ask(0), tell(0), wait(0), wait(1), ask(1), {Kind: 9}, ready(2), tell(1)}
	s := failing(parts(2, 5, 5, 50, 7, 70, mostKey, 1), 1)
	run, left := wantModel(t, "P15.5: fields", mixed{s, work(plain)})
	for _, n := range []int{lowest, -1, 0, 1, 5, 8, 9, highest} {
		var calls []api.Call
		for _, c := range plain {
			c.B, c.C, c.Pairs = n, -n, pairs(n, n)
			calls = append(calls, c)
		}
		s.Workers = n
		for _, leases := range []int{1, 2, 64} {
			s.Leases = leases
			wantPlay(t, "P15.5: fields", mixed{s, work(calls)}, run, left.rows())
		}
	}
}

// Of an answer a call tells its own fields alone.
func TestFieldsOfAnswers(t *testing.T) {
	mixedPlays(500, manners{wild: true}, func(x mixed) {
		run, _, err := load.Play(x.s, x.c)
		if err != api.OK {
			t.Fatalf("P15.5: %+v: %v", x, err)
		}
		for k, answers := range run.Answers {
			for i, a := range answers {
				kind := x.c.Work[k][i].Kind
				if a.Ok != (a.Err == api.OK) || a.M != 0 || len(a.Ints) != 0 || a.N != 0 && kind != 3 && kind != 4 || len(a.Pairs) != 0 && kind != 4 {
					t.Fatalf("P15.5: %+v: %+v", x.c.Work[k][i], a)
				}
				if a.Err != api.OK && (a.N != 0 || len(a.Pairs) != 0) {
					t.Fatalf("rule 4: %+v: %+v", x.c.Work[k][i], a)
				}
			}
		}
	})
}

// The rows, where calls are open still: a part that is being loaded, its version laid and not.
func TestRows(t *testing.T) {
	for at := 1; at <= exampleOwn; at++ {
		c := work([]api.Call{ready(1)}, []api.Call{ready(0)})
		s := parts(2, 9, mostKey-2, 50, mostKey, 70, mostKey-2, 51)
		c.Turns, c.Halt = make([]int, at), []int{at}
		_, left := wantModel(t, "P15.5: rows", mixed{s, c})
		_, rows, _ := load.Play(s, c)
		want := 1
		switch at {
		case 1:
			want = 0
		case exampleOwn:
			want = 2
		}
		if len(rows) != 4 || !slices.Equal(rows[0], []int{2, want}) || len(rows[2]) != 1 || len(rows[3]) != map[bool]int{true: 1}[at >= exampleOwn-1] {
			t.Errorf("P15.5: halted behind %d lines: %v", at, rows)
		}
		if rows[1][0] != len(left.free) || rows[1][1] != 0 {
			t.Errorf("P15.5: halted behind %d lines: %v", at, rows)
		}
	}
}

// stop: a call behind others, all of worker 0, and what its lines change.
type stop struct {
	name  string
	s     api.Setup
	ahead []api.Call
	call  api.Call
	lines []change
}

func stops() []stop {
	var list []stop
	for _, call := range []api.Call{ready(0), wait(0)} {
		name := []string{"Ready", "Wait"}[call.Kind-1]
		list = append(list,
			stop{name, example(9), nil, call, loads(exampleTree(), leads(0, 3, five), becomes(0, 2))},
			stop{name + " of no pairs", parts(1, 9), nil, call, loads(leads(0, 1, 0), becomes(0, 2))},
			stop{name + " of what is there", example(9), []api.Call{ready(0)}, call, still(1)},
			stop{name + " that fails", failing(example(9), 1), nil, call, loads(becomes(0, 0))},
			stop{name + " behind one that failed", failing(example(9), 1), []api.Call{ready(0)}, call, loads(exampleTree(), leads(0, 3, five), becomes(0, 2))},
			stop{name + " without room for a Put", example(2), nil, call, loads(takes(1, leaf(5, 50)), still(1), takes(2, leaf(7, 70)), still(1), back(2, 1), becomes(0, 0))},
			stop{name + " without room for First", parts(1, 3, 5, 50, 7, 70), nil, call, loads(twoKeys(), still(1), back(3, 2, 1), becomes(0, 0))},
			stop{name + " of no part", example(9), nil, api.Call{Kind: call.Kind, A: 1}, still(1)},
		)
	}
	return append(list,
		stop{"State", example(9), nil, ask(0), still(1)},
		stop{"the call 4", example(9), []api.Call{ready(0)}, tell(0), still(6)},
		stop{"no call", example(9), nil, api.Call{Kind: 7}, still(1)},
	)
}

// A call that is stopped for good has done its lines and no more.
func TestHaltsAndCutsAtEveryLine(t *testing.T) {
	for _, x := range stops() {
		m := newModel(x.s)
		run, _ := m.run(work(x.ahead))
		ahead, is := run.Steps, m.told()
		for at := 1; at <= len(x.lines); at++ {
			is = is.clone()
			x.lines[at-1](&is)
			for _, cut := range []bool{false, true} {
				c := work(append(slices.Clone(x.ahead), x.call, ask(0)))
				c.Halt = []int{ahead + at}
				if cut {
					c.Halt, c.Until = nil, ahead+at
				}
				run, left := wantModel(t, "P15.5: "+x.name, mixed{x.s, c})
				open, ended := []api.Open{{Worker: 0, Begin: ahead + 1, Own: at}}, len(x.ahead)
				if at == len(x.lines) {
					open, ended = nil, ended+1
				}
				if run.Cut != cut || run.Steps != ahead+at || !slices.Equal(run.Open, open) || len(run.Answers[0]) != ended || !left.same(is) {
					t.Errorf("P15.5: %s, stopped behind %d lines, cut %v: %+v, %+v, want %+v", x.name, at, cut, run, left, is)
				}
				f := wantFilm(t, "P15.5: "+x.name, mixed{x.s, c})
				if last := f.moments[len(f.moments)-1]; !last.same(is) {
					t.Errorf("P15.5: %s, stopped behind %d lines, cut %v: %+v, want %+v", x.name, at, cut, last, is)
				}
			}
		}
	}
}

// Behind a worker that was halted in the midst: of its part all others are told that it is busy, and Waits go round; of another part they do all.
func TestOthersGoOnBehindAHalt(t *testing.T) {
	for _, call := range []api.Call{ready(0), wait(0)} {
		for at := 1; at <= exampleOwn; at++ {
			s := parts(2, 20, 5, 50, 7, 70, 5, 51, mostKey, 9)
			c := work([]api.Call{call}, []api.Call{ready(0), ask(0), tell(0), ready(1), wait(1), tell(1), ready(0), wait(0), ask(1)})
			c.Turns, c.Halt, c.Until = make([]int, at), []int{at}, 300
			run, left := wantModel(t, "P15.2: behind a halt", mixed{s, c})
			a := run.Answers[1]
			wanted := []api.Answer{failed(busy), is(1), failed(none), good(), good(), first1(mostKey, 9), failed(busy)}
			switch {
			case at == 1 || at == exampleOwn:
				wanted = []api.Answer{good(), is(2), first1(5, 51, 7, 70), good(), good(), first1(mostKey, 9), good(), good(), is(2)}
			case at == exampleOwn-1: // its version is laid, and told
				wanted[2] = first1(5, 51, 7, 70)
			}
			if len(a) != len(wanted) || run.Cut != (len(a) == 7) || left.faults != 0 {
				t.Fatalf("P15.2: halted behind %d lines: %+v", at, run)
			}
			for i, want := range wanted {
				if !sameAnswer(a[i], want) {
					t.Errorf("P15.2: halted behind %d lines: %+v, want %+v", at, a[i], want)
				}
			}
		}
	}
}

// A Wait of a part whose loading is halted is cut, however many steps there are.
func TestWaitThatIsCut(t *testing.T) {
	c := work([]api.Call{ready(0)}, []api.Call{wait(0), ask(0)}, []api.Call{wait(0)})
	c.Turns, c.Halt = make([]int, 5), []int{5}
	run, left := wantModel(t, "P15.2: MaxSteps", mixed{example(9), c})
	if !run.Cut || run.Steps != api.MaxSteps || len(run.Open) != 3 || len(run.Answers[1])+len(run.Answers[2]) != 0 || left.states[0] != 1 {
		t.Errorf("P15.2: MaxSteps: %+v", run)
	}
	for until := 6; until < 30; until++ {
		c.Until = until
		run, _ := wantModel(t, "P15.2: Until", mixed{example(9), c})
		if !run.Cut || run.Steps != until {
			t.Errorf("P15.2: Until %d: %+v", until, run)
		}
	}
}

func TestAgainstModel(t *testing.T) {
	counts := map[string]int{}
	errs := map[api.Errno]int{}
	for _, how := range []manners{{}, {wild: true}} {
		mixedPlays(2000, how, func(x mixed) {
			run, left := wantModel(t, "P15.5", x)
			for k, answers := range run.Answers {
				for i, a := range answers {
					errs[a.Err]++
					switch kind := x.c.Work[k][i].Kind; {
					case kind == 1 && a.Err == busy && a.Own > 1:
						counts["Readies whose cas wasn't done"]++
					case kind == 1 && a.Ok && a.Own >= 8:
						counts["Readies that loaded"]++
					case kind == 2 && a.Ok && a.Own >= 8:
						counts["Waits that loaded"]++
					case kind == 2 && a.Ok && a.Own > 1:
						counts["Waits that waited"]++
					case kind == 3:
						counts[fmt.Sprintf("state %d", a.N)]++
					case kind == 4 && len(a.Pairs) > 1:
						counts["pairs"]++
					}
				}
			}
			counts["open"] += len(run.Open)
			if run.Cut {
				counts["cut"]++
			}
			if slices.Contains(left.states, 1) {
				counts["being loaded"]++
			}
		})
	}
	for _, err := range []api.Errno{api.OK, noCall, noPart, busy, fails, full, none} {
		if errs[err] < 50 {
			t.Errorf("the cases are too plain: %v comes %d times", err, errs[err])
		}
	}
	for _, what := range []string{
		"Readies whose cas wasn't done", "Readies that loaded", "Waits that loaded", "Waits that waited", "state 0", "state 1", "state 2", "pairs", "open", "cut", "being loaded",
	} {
		if counts[what] < 20 {
			t.Errorf("the cases are too plain: %d %s", counts[what], what)
		}
	}
}

func TestGreatestCase(t *testing.T) {
	m := mixer(3)
	c := api.Case{Turns: []int{5, 3, 3, -1}}
	s := api.Setup{Parts: mostParts, Slots: mostSlots, Leases: 64, Fails: 1}
	for range api.MaxWorkers {
		var calls []api.Call
		for range api.MaxCalls {
			calls = append(calls, m.call(s, manners{wild: true}))
		}
		c.Work = append(c.Work, calls)
	}
	for i := range api.MaxSource {
		s.Source = append(s.Source, api.Pair{Key: i * 16777213, Value: i})
	}
	if run, _ := wantModel(t, "P15.5: the greatest case", mixed{s, c}); run.Cut {
		t.Error("P15.5: the greatest case is cut")
	}
	s.Slots = 60
	wantModel(t, "P15.5: the greatest case in a small pool", mixed{s, c})
	// More pairs than a map's source may have are loaded as they are.
	s = parts(1, mostSlots)
	for i := range api.MaxSource + 1 {
		s.Source = append(s.Source, api.Pair{Key: i, Value: i})
	}
	run, _ := wantModel(t, "P15.5: a great source", mixed{s, work([]api.Call{ready(0), tell(0)})})
	if a := run.Answers[0]; run.Cut || !a[0].Ok || !slices.Equal(a[1].Pairs, s.Source) {
		t.Errorf("P15.5: a great source: %+v", a[0])
	}
}

func TestPlayIsTheSameEachTime(t *testing.T) {
	mixedPlays(200, manners{wild: true}, func(x mixed) {
		run, rows, err := load.Play(x.s, x.c)
		for range 5 {
			again, then, e := load.Play(x.s, x.c)
			if !sameRun(run, again) || !sameLists(rows, then) || e != err {
				t.Fatalf("P15.5: %+v\nonce %+v %v %v\nthen %+v %v %v", x, run, rows, err, again, then, e)
			}
		}
	})
}

// roomy copies a list into one with spare room, in which something stands.
func roomy(list []int) []int {
	room := append(slices.Clone(list), 71, 72, 73)
	return room[:len(list)]
}

// untouched tells whether a roomy list is as it was.
func untouched(list, was []int) bool {
	return slices.Equal(list, was) && slices.Equal(list[:len(list)+3][len(list):], []int{71, 72, 73})
}

func TestPlayKeepsToItsOwnMemory(t *testing.T) {
	told := 0
	mixedPlays(600, manners{wild: true}, func(x mixed) {
		s, c := x.s, plainCase(x.c)
		c.Turns, c.Halt = roomy(c.Turns), roomy(c.Halt)
		s.Source = append(slices.Clone(x.s.Source), pairs(71, 72)...)[:len(x.s.Source)]
		run, rows, _ := load.Play(s, c)
		if !untouched(c.Turns, x.c.Turns) || !untouched(c.Halt, x.c.Halt) || !slices.Equal(s.Source[:len(s.Source)+1], append(slices.Clone(x.s.Source), pairs(71, 72)...)) {
			t.Fatalf("rule 3: Play changed what was handed in: %+v, %+v", s, c)
		}
		keptRun, kept := plainRun(run), plainRows(rows)
		for i := range s.Source {
			s.Source[i] = api.Pair{Key: -99, Value: -99}
		}
		for k := range c.Work {
			for i := range c.Work[k] {
				c.Work[k][i] = api.Call{Kind: -99}
			}
		}
		writeOver(c.Turns)
		writeOver(c.Halt)
		if !sameRun(run, keptRun) || !sameLists(rows, kept) {
			t.Fatalf("rule 3: an answer hangs on what was handed in: %+v", x)
		}
		for i := range rows {
			writeOver(rows[i])
			rows[i], kept[i] = nil, nil
			if !sameLists(rows, kept) || !sameRun(run, keptRun) {
				t.Fatalf("rule 3: two rows share memory: %+v", x)
			}
		}
		for k := range run.Answers {
			for i := range run.Answers[k] {
				list := run.Answers[k][i].Pairs
				told += min(1, len(list))
				for j := range list[:cap(list)] {
					list[:cap(list)][j] = api.Pair{Key: -99}
				}
				run.Answers[k][i].Pairs, keptRun.Answers[k][i].Pairs = nil, nil
				if !sameRun(run, keptRun) {
					t.Fatalf("rule 3: two answers share memory: %+v", x)
				}
			}
		}
		wantModel(t, "rule 3: behind answers that were written over", x)
	})
	if told < 30 {
		t.Errorf("the cases are too plain: pairs were told %d times", told)
	}
}

func plainRows(rows [][]int) [][]int {
	var list [][]int
	for _, row := range rows {
		list = append(list, slices.Clone(row))
	}
	return list
}

func TestPlayLeavesNothing(t *testing.T) {
	before := runtime.NumGoroutine()
	mixedPlays(200, manners{wild: true}, func(x mixed) { load.Play(x.s, x.c) })
	for range 500 {
		if runtime.NumGoroutine() <= before {
			return
		}
		time.Sleep(time.Millisecond)
	}
	t.Errorf("P15.5: %d goroutines, %d ahead of it", runtime.NumGoroutine(), before)
}
