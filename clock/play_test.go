package clock_test

import (
	"runtime"
	"slices"
	"testing"
	"time"

	"skein/api"
	"skein/clock"
)

func TestPlayRefuses(t *testing.T) {
	fine := work([]api.Call{take(0)})
	refuses := func(leases int, c api.Case, want api.Errno) {
		t.Helper()
		run, rows, err := clock.Play(leases, c)
		if err != want || !sameRun(run, api.Run{}) || len(rows) != 0 {
			t.Errorf("P13.8: Play(%d, %+v): %+v, %v, %v, want %v", leases, c, run, rows, err, want)
		}
	}
	cases := []api.Case{
		{},
		{Work: make([][]api.Call, 9)},
		work(nil, make([]api.Call, 65)),
		{Work: fine.Work, Until: -1},
		{Work: fine.Work, Until: lowest},
		{Work: fine.Work, Until: api.MaxSteps + 1},
		{Work: fine.Work, Until: highest},
	}
	for _, n := range noSizes {
		refuses(n, fine, api.ErrClockMany)
		for _, c := range cases {
			refuses(n, c, api.ErrClockMany)
		}
	}
	for _, c := range cases {
		refuses(1, c, api.ErrCrewCase)
		refuses(most, c, api.ErrCrewCase)
	}
}

func TestIdlePlay(t *testing.T) {
	for _, n := range []int{1, 2, 3, 63, most} {
		wantPlay(t, "P13.8: no calls", n, work(nil, nil), api.Run{Answers: [][]api.Answer{nil, nil}}, moment(1, make([]int, n)...))
	}
}

// own: an answer in so many lines.
func own(lines int, a api.Answer) api.Answer {
	a.Own = lines
	return a
}

// steps: a run of one worker, its answers one behind the other.
func steps(answers ...api.Answer) api.Run {
	at := 0
	for i := range answers {
		answers[i].Begin, answers[i].End = at+1, at+answers[i].Own
		at += answers[i].Own
	}
	return api.Run{Answers: [][]api.Answer{answers}, Steps: at}
}

const (
	noCall  = api.ErrClockCall
	noLease = api.ErrClockLease
)

// Each Kind: its lines, its answer's fields, where it goes well and where it doesn't; the rows behind it.
func TestPlaysCalls(t *testing.T) {
	wantPlay(t, "P13.8", 2, work([]api.Call{
		now(), least(), take(2), holds(2), take(2), take(0), least(), now(), take(1), release(1), release(2), release(2), holds(2), least(), take(3), free(0), free(0), holds(3), release(3), holds(0),
	}), steps(
		own(1, counted(1)), own(3, counted(1)), own(5, took(0, 1)), own(1, good()), own(1, failed(noCall)), own(6, took(1, 2)), own(3, counted(1)), own(1, counted(3)),
		own(2, failed(api.ErrClockLeases)), own(1, failed(noLease)), own(1, good()), own(1, failed(noLease)), own(1, failed(noLease)), own(3, counted(2)),
		own(5, took(0, 3)), own(1, good()), own(1, failed(noLease)), own(1, bad()), own(1, failed(noLease)), own(1, good()),
	), moment(4, 0, 3))
}

// One behind the other: the first four registers, and those that are none, for each call that goes by one.
func TestRegisters(t *testing.T) {
	wantPlay(t, "P13.8: four registers", 5, work([]api.Call{
		take(3), take(0), take(1), take(2), holds(0), holds(1), holds(2), holds(3), release(0), release(1), release(2), release(3),
	}), steps(
		own(5, took(0, 1)), own(6, took(1, 2)), own(7, took(2, 3)), own(8, took(3, 4)),
		own(1, good()), own(1, good()), own(1, good()), own(1, good()), own(1, good()), own(1, good()), own(1, good()), own(1, good()),
	), moment(5, 0, 0, 0, 0, 0))
	for _, r := range noRegs {
		for _, n := range []int{1, 2} {
			wantPlay(t, "P13.8: no register", n, work([]api.Call{take(r), release(r), holds(r), take(0), take(r), release(r), holds(r), holds(0)}), steps(
				own(1, failed(noCall)), own(1, failed(noCall)), own(1, failed(noCall)), own(5, took(0, 1)),
				own(1, failed(noCall)), own(1, failed(noCall)), own(1, failed(noCall)), own(1, good()),
			), moment(2, 2, 0).first(n))
		}
	}
}

// first: the same with the first leases alone.
func (s state) first(n int) state {
	s.leases = s.leases[:n]
	return s
}

// A register that isn't empty is told ahead of all lines, also if no lease is free.
func TestTakeIntoAFullRegister(t *testing.T) {
	wantPlay(t, "P13.8: a register that isn't empty", 1, work([]api.Call{take(1), take(1), take(0), holds(1), release(1), take(1)}), steps(
		own(5, took(0, 1)), own(1, failed(noCall)), own(1, failed(api.ErrClockLeases)), own(1, good()), own(1, good()), own(5, took(0, 2)),
	), moment(3, 3))
	// What it holds doesn't count: a lease that somebody else let go of is in the register still.
	wantPlay(t, "P13.8: a register of a lease that isn't held", 2, work([]api.Call{take(0), free(0), take(0), take(1), holds(0), holds(1)}), steps(
		own(5, took(0, 1)), own(1, good()), own(1, failed(noCall)), own(5, took(0, 2)), own(1, bad()), own(1, good()),
	), moment(3, 3, 0))
}

// A Take that fails leaves its register empty.
func TestRegisterBehindATakeThatFails(t *testing.T) {
	wantPlay(t, "P13.8: a Take that fails", 1, work([]api.Call{take(0), take(1), holds(1), release(1), release(0), take(1), holds(1)}), steps(
		own(5, took(0, 1)), own(1, failed(api.ErrClockLeases)), own(1, failed(noLease)), own(1, failed(noLease)), own(1, good()), own(5, took(0, 2)), own(1, good()),
	), moment(3, 3))
}

// Empty registers; a register is empty behind its Release, also behind one that answers an error.
func TestRegisterBehindARelease(t *testing.T) {
	wantPlay(t, "P13.8: empty registers", 1, work([]api.Call{release(0), holds(0), take(0), release(0), holds(0), release(0)}), steps(
		own(1, failed(noLease)), own(1, failed(noLease)), own(5, took(0, 1)), own(1, good()), own(1, failed(noLease)), own(1, failed(noLease)),
	), moment(2, 0))
	wantPlay(t, "P13.8: a Release that answers an error", 2, work([]api.Call{take(0), free(0), holds(0), holds(0), release(0), holds(0), release(0), take(0), holds(0)}), steps(
		own(5, took(0, 1)), own(1, good()), own(1, bad()), own(1, bad()), own(1, failed(noLease)), own(1, failed(noLease)), own(1, failed(noLease)), own(5, took(0, 2)), own(1, good()),
	), moment(3, 3, 0))
}

// A register's Release lets go of its lease, whoever took that meanwhile.
func TestReleaseOfALeaseThatWasTakenAgain(t *testing.T) {
	wantPlay(t, "P13.8: taken again", 1, work([]api.Call{take(0), free(0), take(1), holds(0), release(0), holds(1), release(1)}), steps(
		own(5, took(0, 1)), own(1, good()), own(5, took(0, 2)), own(1, bad()), own(1, good()), own(1, bad()), own(1, failed(noLease)),
	), moment(3, 0))
}

// Registers are each worker's own; a lease isn't: another worker lets it go by its number.
func TestRegistersAreOwn(t *testing.T) {
	c := work([]api.Call{take(0), holds(0), holds(0), release(0)}, []api.Call{holds(0), release(0), free(0), take(0), holds(0)})
	c.Turns = []int{0, 0, 0, 0, 0, 1, 1, 0, 1, 0, 1, 1, 1, 1, 1, 1, 0}
	wantPlay(t, "P13.8: another worker's", 2, c, api.Run{Steps: 17, Answers: [][]api.Answer{
		{
			{Begin: 1, End: 5, Own: 5, Ok: true, N: 0, M: 1}, {Begin: 8, End: 8, Own: 1, Ok: true},
			{Begin: 10, End: 10, Own: 1}, {Begin: 17, End: 17, Own: 1, Ok: true},
		},
		{
			{Begin: 6, End: 6, Own: 1, Err: noLease}, {Begin: 7, End: 7, Own: 1, Err: noLease}, {Begin: 9, End: 9, Own: 1, Ok: true},
			{Begin: 11, End: 15, Own: 5, Ok: true, N: 0, M: 2}, {Begin: 16, End: 16, Own: 1, Ok: true},
		},
	}}, moment(3, 0, 0))
	// All eight have four each.
	great := api.Case{Work: make([][]api.Call, 8)}
	for k := range great.Work {
		great.Work[k] = []api.Call{take(0), take(1), take(2), take(3), holds(0), holds(1), holds(2), holds(3)}
	}
	run, _ := wantModel(t, "P13.8: all registers", 32, great)
	for k, answers := range run.Answers {
		for i, a := range answers {
			if !a.Ok {
				t.Errorf("P13.8: all registers: call %d of worker %d: %+v", i, k, a)
			}
		}
	}
}

func TestReleaseByNumber(t *testing.T) {
	for _, n := range []int{1, 3, most} {
		for _, i := range noLeases(n) {
			wantPlay(t, "P13.8: Release of a lease that is none", n, work([]api.Call{take(0), free(i)}), steps(
				own(5, took(0, 1)), own(1, failed(noLease)),
			), moment(2, make([]int, n)...).with(0, 2))
		}
		for i := range n {
			wantPlay(t, "P13.8: Release of a free lease", n, work([]api.Call{free(i)}), steps(own(1, failed(noLease))), moment(1, make([]int, n)...))
		}
		wantPlay(t, "P13.8: Release by number", n, work([]api.Call{take(0), free(0), free(0)}), steps(
			own(5, took(0, 1)), own(1, good()), own(1, failed(noLease)),
		), moment(2, make([]int, n)...))
	}
}

func TestKindsThatCantBe(t *testing.T) {
	for _, kind := range noKinds {
		for _, a := range []int{lowest, -1, 0, 1, 4, highest} {
			call := api.Call{Kind: kind, A: a, B: 1, C: 2, Pairs: []api.Pair{{Key: 1, Value: 2}}}
			wantPlay(t, "P13.8: a Kind that can't be", 2, work([]api.Call{take(0), call, now()}), steps(
				own(5, took(0, 1)), own(1, failed(noCall)), own(1, counted(2)),
			), moment(2, 2, 0))
		}
	}
}

// What a call has no use for isn't looked at, nor answered.
func TestFieldsWithoutUse(t *testing.T) {
	for _, n := range []int{lowest, -1, 0, 1, 5, highest} {
		dress := func(c api.Call) api.Call {
			if c.Kind == 3 || c.Kind == 4 {
				c.A = n
			}
			c.B, c.C, c.Pairs = n, -n, []api.Pair{{Key: n, Value: n}}
			return c
		}
		plain := []api.Call{take(1), take(1), take(0), take(2), least(), now(), holds(1), holds(3), release(1), release(1), free(0), free(1), now(), least()}
		var calls []api.Call
		for _, c := range plain {
			calls = append(calls, dress(c))
		}
		m := newModel(2)
		run := m.run(work(plain), true)
		wantPlay(t, "P13.8: fields", 2, work(calls), run, m.told())
	}
}

// The rows: now, and all leases, those that are being taken too.
func TestRows(t *testing.T) {
	c := work([]api.Call{take(0), take(1), take(2)}, []api.Call{take(0)})
	c.Turns = append(make([]int, 11), 1, 1, 1)
	c.Halt = []int{11, 3}
	wantPlay(t, "P13.8: rows", 4, c, api.Run{Steps: 14, Answers: [][]api.Answer{
		{{Begin: 1, End: 5, Own: 5, Ok: true, N: 0, M: 1}, {Begin: 6, End: 11, Own: 6, Ok: true, N: 1, M: 2}}, nil,
	}, Open: []api.Open{{Worker: 1, Begin: 12, Own: 3}}}, moment(3, 2, 3, 1, 0))
	for _, n := range []int{1, 2, most} {
		c := work(slices.Concat(slices.Repeat([]api.Call{take(0), release(0)}, 15), []api.Call{take(0)}))
		_, left := wantModel(t, "P13.8: rows behind many Takes", n, c)
		if !left.same(moment(17, make([]int, n)...).with(0, 17)) {
			t.Errorf("P13.8: rows behind many Takes: %+v", left)
		}
	}
}

func TestFirstExampleOfPlay(t *testing.T) {
	wantPlay(t, "example 1", 2, work([]api.Call{take(0), take(1), take(2), least(), free(0), free(0), least(), take(2)}), steps(
		own(5, took(0, 1)), own(6, took(1, 2)), own(2, failed(api.ErrClockLeases)), own(3, counted(1)),
		own(1, good()), own(1, failed(noLease)), own(3, counted(2)), own(5, took(0, 3)),
	), moment(4, 4, 3))
}

func TestSecondExampleOfPlay(t *testing.T) {
	c := work([]api.Call{take(0)}, []api.Call{take(0)})
	c.Turns = []int{0, 0, 0, 1, 1, 1, 1, 1, 1}
	for until, left := range []state{
		moment(1, 0, 0), moment(1, 1, 0), moment(1, 1, 0), moment(1, 2, 0),
		moment(1, 2, 0), moment(1, 2, 1), moment(1, 2, 1), moment(1, 2, 2), moment(1, 2, 2), moment(2, 2, 2),
		moment(2, 2, 2), moment(2, 3, 2), moment(2, 3, 2), moment(3, 3, 2),
	} {
		if until == 0 {
			continue
		}
		c.Until = until
		if _, is := wantModel(t, "example 2", 2, c); !is.same(left) {
			t.Errorf("example 2: behind step %d: %+v, want %+v", until, is, left)
		}
	}
	wantPlay(t, "example 2", 2, c, api.Run{Steps: 13, Answers: [][]api.Answer{
		{{Begin: 1, End: 13, Own: 7, Ok: true, N: 0, M: 2}}, {{Begin: 4, End: 9, Own: 6, Ok: true, N: 1, M: 1}},
	}}, moment(3, 3, 2))
}

func TestThirdExampleOfPlay(t *testing.T) {
	c := work([]api.Call{take(0)}, []api.Call{least()})
	c.Turns, c.Halt = []int{0, 1, 1, 1}, []int{1}
	wantPlay(t, "example 3", 2, c, api.Run{Steps: 4, Answers: [][]api.Answer{nil, {{Begin: 2, End: 4, Own: 3, Ok: true}}}, Open: []api.Open{{Worker: 0, Begin: 1, Own: 1}}}, moment(1, 1, 0))
}

func TestGreatestCase(t *testing.T) {
	r := mixer(3)
	c := api.Case{Turns: []int{5, 3, 3, -1}}
	for range api.MaxWorkers {
		var calls []api.Call
		for range api.MaxCalls {
			calls = append(calls, r.call(most, manners{wild: true, frees: true}))
		}
		c.Work = append(c.Work, calls)
	}
	for _, n := range []int{1, 20, most} {
		if run, _ := wantModel(t, "P13.8: the greatest case", n, c); run.Cut {
			t.Error("P13.8: the greatest case is cut")
		}
	}
}

// stop: a call behind others, all of worker 0, and what there is behind each of its lines.
type stop struct {
	name  string
	ahead []api.Call
	call  api.Call
	left  []state
}

func stops() []stop {
	none, one, two := moment(1, 0, 0), moment(2, 2, 0), moment(3, 2, 3)
	three := moment(3, 0, 3)
	return []stop{
		{"Take", nil, take(0), []state{none.with(0, 1), none.with(0, 1), none.with(0, 2), none.with(0, 2), one}},
		{"Take of the second one", []api.Call{take(1)}, take(0), []state{one, one.with(1, 1), one.with(1, 1), one.with(1, 3), one.with(1, 3), two}},
		{"a Take that finds none", []api.Call{take(1), take(2)}, take(0), []state{two, two}},
		{"a Take that is refused", []api.Call{take(0)}, take(0), []state{one}},
		{"Release", []api.Call{take(0), take(1)}, release(0), []state{three}},
		{"Release of an empty register", []api.Call{take(0), take(1)}, release(2), []state{two}},
		{"Release by number", []api.Call{take(0), take(1)}, free(0), []state{three}},
		{"Release of a free one", nil, free(1), []state{none}},
		{"Holds", []api.Call{take(0), take(1)}, holds(1), []state{two}},
		{"Holds of an empty register", []api.Call{take(0), take(1)}, holds(2), []state{two}},
		{"Least", []api.Call{take(0), take(1)}, least(), same(3, two)},
		{"Now", []api.Call{take(0)}, now(), []state{one}},
		{"no call", nil, api.Call{Kind: 7}, []state{none}},
	}
}

// A call that is stopped for good has done its lines and no more.
func TestHaltsAndCutsAtEveryLine(t *testing.T) {
	for _, x := range stops() {
		ahead := newModel(2).run(work(x.ahead), true).Steps
		for at := 1; at <= len(x.left); at++ {
			for _, cut := range []bool{false, true} {
				c := work(append(slices.Clone(x.ahead), x.call, now()))
				c.Halt = []int{ahead + at}
				if cut {
					c.Halt, c.Until = nil, ahead+at
				}
				run, left := wantModel(t, "P13.8: "+x.name, 2, c)
				open, ended := []api.Open{{Worker: 0, Begin: ahead + 1, Own: at}}, len(x.ahead)
				if at == len(x.left) {
					open, ended = nil, ended+1
				}
				if run.Cut != cut || run.Steps != ahead+at || !slices.Equal(run.Open, open) || len(run.Answers[0]) != ended || !left.same(x.left[at-1]) {
					t.Errorf("P13.8: %s, stopped behind %d lines, cut %v: %+v, %+v, want %+v", x.name, at, cut, run, left, x.left[at-1])
				}
			}
		}
	}
}

// Behind a worker that was halted in the midst the others do all their calls, in as many lines as ever; what it was taking stays taken, till somebody lets it go.
func TestOthersGoOnBehindAHalt(t *testing.T) {
	for _, x := range stops() {
		ahead := newModel(4).run(work(x.ahead), true).Steps
		for at := range len(x.left) + 1 {
			if ahead+at == 0 {
				continue
			}
			c := work(append(slices.Clone(x.ahead), x.call), []api.Call{take(0), holds(0), least(), release(0), free(0), free(1), free(2), free(3), least(), take(3)})
			c.Turns, c.Halt = make([]int, ahead+at), []int{ahead + at}
			run, left := wantModel(t, "P13.8: behind a halt", 4, c)
			if run.Cut || len(run.Answers[1]) != 10 {
				t.Fatalf("P13.8: %s, halted behind %d lines: %+v", x.name, at, run)
			}
			a := run.Answers[1]
			if !a[0].Ok || !a[1].Ok || !a[3].Ok || a[2].Own != 5 || a[8].N != a[0].M+1 || a[9].N != 0 || a[9].Own != 5 {
				t.Errorf("P13.8: %s, halted behind %d lines: %+v", x.name, at, run)
			}
			if want := moment(a[9].M+1, a[9].M+1, 0, 0, 0); !left.same(want) {
				t.Errorf("P13.8: %s, halted behind %d lines: %+v, want %+v", x.name, at, left, want)
			}
		}
	}
}

func TestAgainstModel(t *testing.T) {
	counts := map[string]int{}
	errs := map[api.Errno]int{}
	for _, how := range []manners{{}, {wild: true}, {wild: true, frees: true}} {
		mixedPlays(2500, how, func(x mixed) {
			run, _ := wantModel(t, "P13.8", x.leases, x.c)
			for k, answers := range run.Answers {
				for i, a := range answers {
					errs[a.Err]++
					back := a.Own - a.N - 5
					switch kind := x.c.Work[k][i].Kind; {
					case kind == 1 && a.Ok && back >= 4:
						counts["Takes that went back twice"]++
					case kind == 1 && a.Ok && back >= 2:
						counts["Takes that went back"]++
					case kind == 2 && a.Ok:
						counts["Releases"]++
					case kind == 3 && a.N == 0:
						counts["Leasts while one is being taken"]++
					case kind == 3:
						counts["Leasts"]++
					case kind == 5 && a.Ok:
						counts["Holds"]++
					case kind == 5 && a.Err == api.OK:
						counts["Holds of what was let go"]++
					}
				}
			}
			counts["open"] += len(run.Open)
			if run.Cut {
				counts["cut"]++
			}
		})
	}
	for _, err := range []api.Errno{api.OK, noCall, api.ErrClockLeases, noLease} {
		if errs[err] < 100 {
			t.Errorf("the cases are too plain: %v comes %d times", err, errs[err])
		}
	}
	for _, what := range []string{
		"Takes that went back twice", "Takes that went back", "Releases", "Leasts while one is being taken", "Leasts", "Holds", "Holds of what was let go", "open", "cut",
	} {
		if counts[what] < 20 {
			t.Errorf("the cases are too plain: %d %s", counts[what], what)
		}
	}
}

// Every order of the lines of few calls.
func TestEveryOrder(t *testing.T) {
	for _, calls := range [][][]api.Call{
		{{take(0)}, {take(0)}},
		{{take(0), holds(0)}, {take(0), free(0)}},
		{{take(0), release(0)}, {least(), take(0)}},
		{{take(0), release(0), take(0)}, {least(), least()}},
		{{take(0), holds(0), holds(0)}, {free(0), take(0)}},
		{{take(0), holds(0)}, {free(0), take(0), free(1)}},
	} {
		for _, n := range []int{1, 2} {
			orders(2, 10, func(turns []int) {
				wantModel(t, "every order", n, api.Case{Work: calls, Turns: turns})
			})
		}
	}
	orders(3, 7, func(turns []int) {
		calls := [][]api.Call{{take(0)}, {take(0), release(0)}, {least(), now()}}
		wantModel(t, "every order", 2, api.Case{Work: calls, Turns: turns})
	})
}

func TestPlayIsTheSameEachTime(t *testing.T) {
	mixedPlays(300, manners{wild: true, frees: true}, func(x mixed) {
		run, rows, err := clock.Play(x.leases, x.c)
		for range 5 {
			again, then, e := clock.Play(x.leases, x.c)
			if !sameRun(run, again) || !sameLists(rows, then) || e != err {
				t.Fatalf("P13.8: %+v\nonce %+v %v %v\nthen %+v %v %v", x, run, rows, err, again, then, e)
			}
		}
	})
}

// roomy copies a list into one with spare room, in which something stands.
func roomy(list []int) []int {
	room := append(slices.Clone(list), 71, 72, 73)
	return room[:len(list)]
}

// untouched tells whether a roomy list is as it was.
func untouched(list, was []int) bool {
	return slices.Equal(list, was) && slices.Equal(list[:len(list)+3][len(list):], []int{71, 72, 73})
}

func TestPlayKeepsToItsOwnMemory(t *testing.T) {
	mixedPlays(600, manners{wild: true, frees: true}, func(x mixed) {
		c := plainCase(x.c)
		c.Turns, c.Halt = roomy(c.Turns), roomy(c.Halt)
		run, rows, _ := clock.Play(x.leases, c)
		if !untouched(c.Turns, x.c.Turns) || !untouched(c.Halt, x.c.Halt) {
			t.Fatalf("rule 3: Play changed what was handed in: %+v", c)
		}
		for k := range c.Work {
			for i, call := range c.Work[k] {
				if was := x.c.Work[k][i]; call.Kind != was.Kind || call.A != was.A || call.B != was.B || call.C != was.C {
					t.Fatalf("rule 3: Play changed a call: %+v, was %+v", call, was)
				}
				c.Work[k][i] = api.Call{Kind: -99}
			}
		}
		keptRun, kept := plainRun(run), [][]int{slices.Clone(rows[0]), slices.Clone(rows[1])}
		writeOver(c.Turns)
		writeOver(c.Halt)
		if !sameRun(run, keptRun) || !sameLists(rows, kept) {
			t.Fatalf("rule 3: an answer hangs on what was handed in: %+v", x)
		}
		for i := range rows {
			writeOver(rows[i])
			rows[i], kept[i] = nil, nil
			if !sameLists(rows, kept) || !sameRun(run, keptRun) {
				t.Fatalf("rule 3: two rows share memory: %+v", x)
			}
		}
		for _, answers := range run.Answers {
			for i := range answers {
				answers[i] = api.Answer{Err: -99}
			}
		}
		wantModel(t, "rule 3: behind answers that were written over", x.leases, x.c)
	})
}

func TestPlayLeavesNothing(t *testing.T) {
	before := runtime.NumGoroutine()
	mixedPlays(200, manners{wild: true, frees: true}, func(x mixed) { clock.Play(x.leases, x.c) })
	for range 500 {
		if runtime.NumGoroutine() <= before {
			return
		}
		time.Sleep(time.Millisecond)
	}
	t.Errorf("P13.8: %d goroutines, %d ahead of it", runtime.NumGoroutine(), before)
}
