package chain_test

import (
	"fmt"
	"runtime"
	"slices"
	"testing"
	"time"

	"skein/api"
	"skein/chain"
)

// The errors that a Play's calls answer most.
const (
	noCall   = api.ErrChainCall
	none     = api.ErrChainNone
	once     = api.ErrChainOnce
	full     = api.ErrPoolFull
	noHandle = api.ErrPoolHandle
)

func TestPlayRefuses(t *testing.T) {
	fine := work([]api.Call{first(1)})
	refuses := func(slots, leases int, c api.Case, want api.Errno) {
		t.Helper()
		run, rows, err := chain.Play(slots, leases, c)
		if err != want || !sameRun(run, api.Run{}) || len(rows) != 0 {
			t.Errorf("P14.9: Play(%d, %d, %+v): %+v, %v, %v, want %v", slots, leases, c, run, rows, err, want)
		}
	}
	cases := []api.Case{
		{},
		{Work: make([][]api.Call, 9)},
		work(nil, make([]api.Call, 65)),
		{Work: fine.Work, Until: -1},
		{Work: fine.Work, Until: lowest},
		{Work: fine.Work, Until: api.MaxSteps + 1},
		{Work: fine.Work, Until: highest},
	}
	for _, slots := range noSlots {
		for _, leases := range append(noLeases, 1, 64) {
			refuses(slots, leases, fine, api.ErrPoolMany)
			refuses(slots, leases, cases[0], api.ErrPoolMany)
		}
	}
	for _, leases := range noLeases {
		for _, c := range append(cases, fine) {
			refuses(1, leases, c, api.ErrClockMany)
			refuses(mostSlots, leases, c, api.ErrClockMany)
		}
	}
	for _, c := range cases {
		refuses(1, 1, c, api.ErrCrewCase)
		refuses(mostSlots, 64, c, api.ErrCrewCase)
	}
}

func TestIdlePlay(t *testing.T) {
	for _, slots := range []int{1, 2, mostSlots} {
		for _, leases := range []int{1, 64} {
			wantPlay(t, "P14.9: no calls", slots, leases, work(nil, nil), api.Run{Answers: [][]api.Answer{nil, nil}}, nil)
		}
	}
}

// own: an answer in so many lines.
func own(lines int, a api.Answer) api.Answer {
	a.Own = lines
	return a
}

// steps: a run of one worker, its answers one behind the other.
func steps(answers ...api.Answer) api.Run {
	at := 0
	for i := range answers {
		answers[i].Begin, answers[i].End = at+1, at+answers[i].Own
		at += answers[i].Own
	}
	return api.Run{Answers: [][]api.Answer{answers}, Steps: at}
}

// Each Kind: its lines, its answer's fields, where it goes well and where it doesn't; the rows behind it.
func TestPlaysCalls(t *testing.T) {
	wantPlay(t, "P14.9", 4, 1, work([]api.Call{
		top(), at(5), cut(), first(10), first(11), top(), push(20, 7, 8), push(21, 9), move(), move(), top(), push(30), top(), push(-40, 5),
		top(), push(50, 6), first(12), at(1), cut(), cut(), at(3), cut(), top(), cut(), at(0), cut(),
	}), steps(
		own(1, failed(none)), own(1, failed(none)), own(1, failed(noHandle)), own(5, version(1)), own(9, failed(once)), own(2, newest(1, 1)), own(7, version(2)),
		own(8, bad()), own(6, moved(1)), own(6, moved(2)), own(2, newest(2, 1)), own(7, version(3)), own(2, newest(3, 3)), own(7, version(4)),
		own(2, newest(4, 3)), own(1, failed(full)), own(1, failed(full)), own(6, version(2)), own(1, cutting(1, 7, 8)), own(1, cutting(0)), own(2, version(4)), own(1, cutting(3, 5)),
		own(2, newest(4, 3)), own(1, cutting(0)), own(3, failed(none)), own(1, failed(noHandle)),
	), [][]int{{4, -40, 3}})
}

func TestExampleOfPlay(t *testing.T) {
	wantPlay(t, "example", 9, 2, work([]api.Call{
		first(10), top(), push(20, 5, 6), push(30, 7), move(), top(), push(40), at(1), at(0), at(1), cut(), cut(), at(0),
	}), steps(
		own(5, version(1)), own(2, newest(1, 1)), own(7, version(2)), own(8, bad()), own(6, moved(1)), own(2, newest(2, 1)), own(7, version(3)), own(4, version(2)),
		own(7, failed(none)), own(4, version(2)), own(1, cutting(1, 5, 6)), own(1, cutting(0)), own(5, failed(none)),
	), [][]int{{3, 40, 2}, {2, 20, 1}})
}

// The hand: 0 at first, what a Top or an At answered last, 0 behind one that answered an error; no other call changes it.
func TestHand(t *testing.T) {
	wantPlay(t, "P14.9: 0 at first", 3, 1, work([]api.Call{cut(), push(5, 1), cut(), top(), cut()}), steps(
		own(1, failed(noHandle)), own(7, version(1)), own(1, failed(noHandle)), own(2, newest(1, 1)), own(1, cutting(0)),
	), [][]int{{1, 5, 1, 1}})
	wantPlay(t, "P14.9: 0 at first, and there is a version", 3, 1, work([]api.Call{first(1), push(5, 1), cut()}), steps(
		own(5, version(1)), own(8, bad()), own(1, failed(noHandle)),
	), [][]int{{1, 1, 1}})
	// Neither a Push, nor a First, nor a move, nor a Cut is one's hand.
	wantPlay(t, "P14.9: what isn't the hand's", 9, 1, work([]api.Call{first(1), top(), push(2), push(3), first(4), move(), cut(), push(5), top(), cut(), push(6), push(7)}), steps(
		own(5, version(1)), own(2, newest(1, 1)), own(7, version(2)), own(8, bad()), own(9, failed(once)), own(6, moved(1)), own(1, cutting(0)), own(8, bad()),
		own(2, newest(2, 1)), own(1, cutting(1)), own(7, version(3)), own(8, bad()),
	), [][]int{{3, 6, 2}, {2, 2, 1}})
	// Behind an At that answers an error it is 0.
	wantPlay(t, "P14.9: behind an error", 9, 1, work([]api.Call{first(1), top(), at(0), cut(), push(2), at(1), push(3), at(-5), push(4)}), steps(
		own(5, version(1)), own(2, newest(1, 1)), own(3, failed(none)), own(1, failed(noHandle)), own(8, bad()), own(2, version(1)), own(7, version(2)),
		own(5, failed(none)), own(8, bad()),
	), [][]int{{2, 3, 1}, {1, 1, 1}})
}

// Hands are each worker's own, all eight of them.
func TestHandsAreOwn(t *testing.T) {
	c := work([]api.Call{first(1), top()}, []api.Call{cut(), push(2), top(), push(3)})
	c.Turns = append(make([]int, 7), slices.Repeat([]int{1}, 99)...)
	run, _ := wantModel(t, "P14.9: hands", mixed{9, 1, c})
	for i, want := range []api.Answer{failed(noHandle), bad(), newest(1, 1), version(2)} {
		if !sameAnswer(run.Answers[1][i], want) {
			t.Errorf("P14.9: another worker's hand: %+v", run.Answers[1])
		}
	}
	great := api.Case{Work: slices.Repeat([][]api.Call{{top(), push(5), cut(), top(), push(6)}}, 8)}
	great.Work[0] = append([]api.Call{first(1)}, great.Work[0]...)
	great.Turns = make([]int, 5)
	wantModel(t, "P14.9: all hands", mixed{20, 1, great})
}

func TestKindsThatCantBe(t *testing.T) {
	for _, kind := range noKinds {
		for _, a := range []int{lowest, -1, 0, 1, 4, highest} {
			call := api.Call{Kind: kind, A: a, B: 1, C: 2, Pairs: []api.Pair{{Key: 1, Value: 2}}}
			wantPlay(t, "P14.9: a Kind that can't be", 2, 1, work([]api.Call{first(1), top(), call, push(2, 5)}), steps(
				own(5, version(1)), own(2, newest(1, 1)), own(1, failed(noCall)), own(7, version(2)),
			), [][]int{{2, 2, 1, 5}, {1, 1, 1}})
		}
	}
}

// What a call has no use for isn't looked at, nor answered.
func TestFieldsWithoutUse(t *testing.T) {
	plain := []api.Call{top(), first(1), first(2), top(), push(20, 7, 8), push(21, 9), move(), top(), push(30), at(1), cut(), cut(), at(2), cut(), at(0), push(3)}
	m := newModel(5, 1)
	run := m.run(work(plain), true)
	for _, n := range []int{lowest, -1, 0, 1, 5, highest} {
		var calls []api.Call
		for _, c := range plain {
			c.B, c.C = n, -n
			switch c.Kind {
			case 2, 5, 6:
				c.A = n
			}
			c.Pairs = slices.Clone(c.Pairs)
			for i := range c.Pairs {
				c.Pairs[i].Value = n
			}
			if c.Kind != 3 {
				c.Pairs = []api.Pair{{Key: n, Value: n}}
			}
			calls = append(calls, c)
		}
		wantPlay(t, "P14.9: fields", 5, 1, work(calls), run, m.told().rows())
	}
}

// The numbers that a node and a set may have: all of them, as they are, also twice.
func TestAnyNumbers(t *testing.T) {
	for _, n := range farNumbers {
		wantPlay(t, "P14.9: any number", 3, 1, work([]api.Call{first(n), top(), push(n, n, 1, n), at(highest), cut(), at(lowest)}), steps(
			own(5, version(1)), own(2, newest(1, 1)), own(7, version(2)), own(2, version(2)), own(1, cutting(1, n, 1, n)), own(3, failed(none)),
		), [][]int{{2, n, 1}})
	}
}

// Leases: all that there are held by others who are halted in the midst.
func TestMoveWithoutALease(t *testing.T) {
	c := work([]api.Call{move()}, []api.Call{move(), first(1), top(), move()})
	c.Turns, c.Halt = []int{0}, []int{1}
	wantPlay(t, "P14.9: clock.Take's error", 2, 1, c, api.Run{Steps: 10, Answers: [][]api.Answer{nil, {
		{Begin: 2, End: 2, Own: 1, Err: api.ErrClockLeases}, {Begin: 3, End: 7, Own: 5, Ok: true, N: 1}, {Begin: 8, End: 9, Own: 2, Ok: true, N: 1, M: 1},
		{Begin: 10, End: 10, Own: 1, Err: api.ErrClockLeases},
	}}, Open: []api.Open{{Worker: 0, Begin: 1, Own: 1}}}, [][]int{{1, 1, 1}})
	// The second one of two is let go as well: the moves of one worker need one lease.
	c = work([]api.Call{move()}, many(9, move()))
	c.Turns, c.Halt = []int{0}, []int{1}
	run, _ := wantModel(t, "P14.9: Release of what it took", mixed{1, 2, c})
	for i, a := range run.Answers[1] {
		if !sameAnswer(a, moved(i+1)) || a.Own != 7 {
			t.Errorf("P14.9: move %d: %+v", i, a)
		}
	}
}

// The rows: what isn't settled has the stamp 0; what is cut off isn't told; no line is done for them.
func TestRows(t *testing.T) {
	calls := []api.Call{first(1), move(), top(), push(2, 5, 5), top(), push(3), top(), push(4, 6)}
	c := work(calls)
	c.Halt = []int{5 + 6 + 2 + 7 + 2 + 7 + 2 + 4}
	run, _ := wantModel(t, "P14.9: rows", mixed{9, 1, c})
	if run.Steps != 35 || len(run.Open) != 1 {
		t.Errorf("P14.9: rows: %+v", run)
	}
	_, rows, _ := chain.Play(9, 1, c)
	if want := [][]int{{4, 4, 0, 6}, {3, 3, 2}, {2, 2, 2, 5, 5}, {1, 1, 1}}; !sameLists(rows, want) {
		t.Errorf("P14.9: rows: %v, want %v", rows, want)
	}
	c = work(append(calls, top(), at(1), top(), cut()))
	_, rows, _ = chain.Play(9, 1, c)
	if want := [][]int{{4, 4, 2}}; !sameLists(rows, want) {
		t.Errorf("P14.9: rows behind a Cut: %v, want %v", rows, want)
	}
}

func TestGreatestCase(t *testing.T) {
	r := mixer(3)
	c := api.Case{Turns: []int{5, 3, 3, -1}}
	for range api.MaxWorkers {
		var calls []api.Call
		for range api.MaxCalls {
			calls = append(calls, r.call(mostSlots, manners{wild: true}))
		}
		c.Work = append(c.Work, calls)
	}
	for _, slots := range []int{1, 20, mostSlots} {
		for _, leases := range []int{1, 64} {
			if run, _ := wantModel(t, "P14.9: the greatest case", mixed{slots, leases, c}); run.Cut {
				t.Error("P14.9: the greatest case is cut")
			}
		}
	}
}

// stop: a call behind others, all of worker 0, and what its lines change.
type stop struct {
	name  string
	ahead []api.Call
	call  api.Call
	lines []change
}

func stops() []stop {
	base := []api.Call{first(10), move(), top(), push(20, 5, 6), top()}
	behind := append(slices.Clone(base), first(0)) // so that a slot has gone round
	return []stop{
		{"First", nil, first(1), firstLines(1, 1)},
		{"First that comes late", base, first(1), lines(still(2), takes(3, 1, 0), stamped(3, 1), still(1), backLines(3))},
		{"Top without a version", nil, top(), still(1)},
		{"Top", base, top(), still(2)},
		{"Push", base, push(30, 7), pushLines(3, 30, two, 2, 7)},
		{"Push into a slot that came back", behind, push(30, 7), pushLines(3, 30, two, 2, 7)},
		{"Push that comes late", []api.Call{first(10), top(), push(20), move()}, push(30, 7), vainLines(3, 30, one, 7)},
		{"Push upon 0", []api.Call{move()}, push(30, 7), pushLines(1, 30, 0, 2, 7)},
		{"At", base, at(2), still(2)},
		{"At, one step", base, at(1), still(4)},
		{"At, to the end", base, at(0), still(5)},
		{"Cut", base, cut(), lines(cutOffAt(0))},
		{"Cut of 0", nil, cut(), still(1)},
		{"a move", base[:1], move(), moveLines(1)},
		{"no call", base, api.Call{Kind: 7}, still(1)},
	}
}

// A call that is stopped for good has done its lines and no more.
func TestHaltsAndCutsAtEveryLine(t *testing.T) {
	const slots = 9
	for _, x := range stops() {
		m := newModel(slots, 1)
		ahead := m.run(work(x.ahead), true).Steps
		is := m.told()
		for at := 1; at <= len(x.lines); at++ {
			is = is.clone()
			x.lines[at-1](&is)
			for _, cut := range []bool{false, true} {
				c := work(append(slices.Clone(x.ahead), x.call, move()))
				c.Halt = []int{ahead + at}
				if cut {
					c.Halt, c.Until = nil, ahead+at
				}
				run, left := wantModel(t, "P14.9: "+x.name, mixed{slots, 1, c})
				open, ended := []api.Open{{Worker: 0, Begin: ahead + 1, Own: at}}, len(x.ahead)
				if at == len(x.lines) {
					open, ended = nil, ended+1
				}
				if run.Cut != cut || run.Steps != ahead+at || !slices.Equal(run.Open, open) || len(run.Answers[0]) != ended || !sameLists(left.rows(), is.rows()) {
					t.Errorf("P14.9: %s, stopped behind %d lines, cut %v: %+v, %v, want %v", x.name, at, cut, run, left.rows(), is.rows())
				}
				if _, r := wantNamed(t, "P14.9: "+x.name, mixed{slots, 1, c}); !r.state().same(is) {
					t.Errorf("P14.9: %s, stopped behind %d lines, cut %v: %+v, want %+v", x.name, at, cut, r.state(), is)
				}
			}
		}
	}
}

// Behind a worker that was halted in the midst the others do all their calls; what it had in hand is lost, and no more.
func TestOthersGoOnBehindAHalt(t *testing.T) {
	for _, x := range stops() {
		ahead := newModel(12, 2).run(work(x.ahead), true).Steps
		for at := range len(x.lines) + 1 {
			if ahead+at == 0 {
				continue
			}
			others := []api.Call{first(90), top(), push(91, 1), move(), top(), push(92, 2), {Kind: 4, A: 1}, cut(), top(), cut(), top()}
			c := work(append(slices.Clone(x.ahead), x.call), others)
			c.Turns, c.Halt = make([]int, ahead+at), []int{ahead + at}
			run, left := wantModel(t, "P14.9: behind a halt", mixed{12, 2, c})
			if run.Cut || len(run.Answers[1]) != len(others) {
				t.Fatalf("P14.9: %s, halted behind %d lines: %+v", x.name, at, run)
			}
			a := run.Answers[1]
			if !a[1].Ok || !a[2].Ok || !a[4].Ok || !a[5].Ok || a[5].Own != 7 || a[4].Own != 2 || a[8].N != a[5].N || !a[9].Ok || a[10].Own != 2 {
				t.Errorf("P14.9: %s, halted behind %d lines: %+v", x.name, at, a)
			}
			if left.versions[0]>>40 != a[5].N || left.slots[a[5].N-1].Mark < 2 {
				t.Errorf("P14.9: %s, halted behind %d lines: %+v", x.name, at, left)
			}
		}
	}
}

func TestAgainstModel(t *testing.T) {
	counts := map[string]int{}
	errs := map[api.Errno]int{}
	for _, how := range []manners{{}, {wild: true}} {
		mixedPlays(4000, how, func(x mixed) {
			run, left := wantModel(t, "P14.9", x)
			for k, answers := range run.Answers {
				for i, a := range answers {
					errs[a.Err]++
					switch kind := x.c.Work[k][i].Kind; {
					case kind == 2 && a.Own == 4:
						counts["Tops that settled"]++
					case kind == 2 && a.Own == 5:
						counts["Tops that settled in vain"]++
					case kind == 3 && a.Ok && a.Own == 5:
						counts["Pushes that were settled"]++
					case kind == 3 && a.Ok && a.Own >= 8:
						counts["Pushes that settled in vain"]++
					case kind == 3 && a.Ok:
						counts["Pushes"]++
					case kind == 3 && a.Err == api.OK:
						counts["Pushes that were false"]++
					case kind == 4 && a.Ok && a.Own > 4:
						counts["Ats that went back"]++
					case kind == 5 && a.N > 0 && len(a.Ints) > 0:
						counts["Cuts"]++
					case kind == 5 && a.Ok:
						counts["Cuts in vain"]++
					}
				}
			}
			counts["open"] += len(run.Open)
			if run.Cut {
				counts["cut"]++
			}
			if len(left.versions) > 0 && left.slots[left.versions[0]>>40-1].Mark == 0 {
				counts["not settled"]++
			}
		})
	}
	for _, err := range []api.Errno{api.OK, noCall, none, once, full, noHandle, api.ErrClockLeases} {
		if errs[err] < 100 {
			t.Errorf("the cases are too plain: %v comes %d times", err, errs[err])
		}
	}
	for _, what := range []string{
		"Tops that settled", "Tops that settled in vain", "Pushes that were settled", "Pushes that settled in vain", "Pushes", "Pushes that were false",
		"Ats that went back", "Cuts", "Cuts in vain", "open", "cut", "not settled",
	} {
		if counts[what] < 20 {
			t.Errorf("the cases are too plain: %d %s", counts[what], what)
		}
	}
}

// inHand: a case of two workers, who have a first version in hand ahead of these calls; turns are those behind that.
func inHand(calls [2][]api.Call, turns []int) api.Case {
	c := work(append([]api.Call{first(1), top()}, calls[0]...), append([]api.Call{top()}, calls[1]...))
	c.Turns = append([]int{0, 0, 0, 0, 0, 0, 0, 1, 1}, turns...)
	return c
}

// Every order of the lines of few calls.
func TestEveryOrder(t *testing.T) {
	for _, calls := range [][2][]api.Call{
		{{push(2, 5)}, {push(3, 6)}},
		{{push(2, 5)}, {top(), push(3, 6)}},
		{{push(2, 5)}, {move(), top()}},
		{{push(2, 5), cut()}, {top(), cut()}},
		{{push(2, 5), top()}, {move(), at(1)}},
		{{move(), push(2)}, {at(1), at(1)}},
	} {
		orders(2, 10, func(turns []int) { wantModel(t, "every order", mixed{4, 1, inHand(calls, turns)}) })
	}
	for _, calls := range [][][]api.Call{
		{{first(1)}, {first(2)}},
		{{first(1)}, {top(), push(2), push(3)}},
		{{push(1, 5)}, {push(2, 6)}},
	} {
		orders(2, 10, func(turns []int) { wantModel(t, "every order", mixed{2, 1, api.Case{Work: calls, Turns: turns}}) })
	}
}

func TestPlayIsTheSameEachTime(t *testing.T) {
	mixedPlays(300, manners{wild: true}, func(x mixed) {
		run, rows, err := chain.Play(x.slots, x.leases, x.c)
		for range 5 {
			again, then, e := chain.Play(x.slots, x.leases, x.c)
			if !sameRun(run, again) || !sameLists(rows, then) || e != err {
				t.Fatalf("P14.9: %+v\nonce %+v %v %v\nthen %+v %v %v", x, run, rows, err, again, then, e)
			}
		}
	})
}

func TestPlayKeepsToItsOwnMemory(t *testing.T) {
	sets := 0
	mixedPlays(1000, manners{wild: true}, func(x mixed) {
		c := plainCase(x.c)
		c.Turns, c.Halt = roomy(c.Turns), roomy(c.Halt)
		run, rows, _ := chain.Play(x.slots, x.leases, c)
		if !untouched(c.Turns, x.c.Turns) || !untouched(c.Halt, x.c.Halt) {
			t.Fatalf("rule 3: Play changed what was handed in: %+v", c)
		}
		keptRun, kept := plainRun(run), plainRows(rows)
		for k := range c.Work {
			for i, call := range c.Work[k] {
				if was := x.c.Work[k][i]; call.Kind != was.Kind || call.A != was.A || call.B != was.B || call.C != was.C || !slices.Equal(call.Pairs, was.Pairs) {
					t.Fatalf("rule 3: Play changed a call: %+v, was %+v", call, was)
				}
				for j := range call.Pairs {
					call.Pairs[j] = api.Pair{Key: -99, Value: -99}
				}
				c.Work[k][i] = api.Call{Kind: -99}
			}
		}
		writeOver(c.Turns)
		writeOver(c.Halt)
		if !sameRun(run, keptRun) || !sameLists(rows, kept) {
			t.Fatalf("rule 3: an answer hangs on what was handed in: %+v", x)
		}
		for i := range rows {
			writeOver(rows[i])
			rows[i], kept[i] = nil, nil
			if !sameLists(rows, kept) || !sameRun(run, keptRun) {
				t.Fatalf("rule 3: two rows share memory: %+v", x)
			}
		}
		for k := range run.Answers {
			for i := range run.Answers[k] {
				sets += min(1, len(run.Answers[k][i].Ints))
				writeOver(run.Answers[k][i].Ints)
				run.Answers[k][i].Ints, keptRun.Answers[k][i].Ints = nil, nil
				if !sameRun(run, keptRun) {
					t.Fatalf("rule 3: two answers share memory: %+v", x)
				}
			}
		}
		wantModel(t, "rule 3: behind answers that were written over", x)
	})
	if sets < 30 {
		t.Errorf("the cases are too plain: %d sets were told", sets)
	}
}

func plainRows(rows [][]int) [][]int {
	var list [][]int
	for _, row := range rows {
		list = append(list, slices.Clone(row))
	}
	return list
}

func TestPlayLeavesNothing(t *testing.T) {
	before := runtime.NumGoroutine()
	mixedPlays(200, manners{wild: true}, func(x mixed) { chain.Play(x.slots, x.leases, x.c) })
	for range 500 {
		if runtime.NumGoroutine() <= before {
			return
		}
		time.Sleep(time.Millisecond)
	}
	t.Errorf("P14.9: %d goroutines, %d ahead of it", runtime.NumGoroutine(), before)
}

// All sizes of a pool and of a clock that may be.
func TestSizesOfPlay(t *testing.T) {
	for _, slots := range []int{1, 2, 3, 64, mostSlots - 1, mostSlots} {
		for _, leases := range []int{1, 2, 3, 31, 63, 64} {
			c := work(slices.Concat([]api.Call{first(1)}, many(9, push(0)), []api.Call{top(), push(2), push(3)}))
			if run, left := wantModel(t, fmt.Sprintf("P14.9: %d slots, %d leases", slots, leases), mixed{slots, leases, c}); run.Cut || len(left.versions) != min(slots, 2) {
				t.Errorf("P14.9: %d slots, %d leases: %+v", slots, leases, left)
			}
		}
	}
}
