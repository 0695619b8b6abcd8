package trim_test

import (
	"fmt"
	"runtime"
	"slices"
	"testing"
	"time"

	"skein/api"
	"skein/trim"
)

func TestPlayRefuses(t *testing.T) {
	fine := work([]api.Call{begin(1)})
	refuses := func(z sizes, c api.Case, want api.Errno) {
		t.Helper()
		run, rows, err := trim.Play(z.slots, z.workers, z.leases, c)
		if err != want || !sameRun(run, api.Run{}) || len(rows) != 0 {
			t.Errorf("P17.2: Play(%+v, %+v): %+v, %v, %v, want %v", z, c, run, rows, err, want)
		}
	}
	cases := []api.Case{
		{},
		{Work: make([][]api.Call, 9)},
		work(nil, make([]api.Call, 65)),
		{Work: fine.Work, Until: -1},
		{Work: fine.Work, Until: lowest},
		{Work: fine.Work, Until: api.MaxSteps + 1},
		{Work: fine.Work, Until: highest},
	}
	for _, workers := range []int{lowest, 0, 1, 8, 9, highest} {
		for _, slots := range badSlots {
			for _, leases := range append(badLeases, 1, mostLeases) {
				refuses(sizes{slots, workers, leases}, fine, api.ErrPoolMany)
				refuses(sizes{slots, workers, leases}, cases[0], api.ErrPoolMany)
			}
		}
		for _, leases := range badLeases {
			for _, c := range append(cases, fine) {
				refuses(sizes{1, workers, leases}, c, api.ErrClockMany)
			}
			refuses(sizes{mostSlots, workers, leases}, fine, api.ErrClockMany)
		}
		for _, c := range cases {
			refuses(sizes{1, workers, 1}, c, api.ErrCrewCase)
			refuses(sizes{mostSlots, workers, mostLeases}, c, api.ErrCrewCase)
		}
	}
}

// All sizes that may be; a Play without calls tells what there is at first: no version, so no row of one.
func TestIdlePlay(t *testing.T) {
	for _, slots := range []int{1, 2, mostSlots} {
		for _, leases := range []int{1, 2, mostLeases} {
			for _, workers := range []int{lowest, 0, 1, 8, highest} {
				rows := [][]int{{1, slots, 0}, make([]int, leases)}
				wantPlay(t, "P17.2: no calls", mixed{sizes{slots, workers, leases}, work(nil, nil)}, api.Run{Answers: [][]api.Answer{nil, nil}}, rows)
			}
		}
	}
}

// steps: a run of one worker, its answers one behind the other.
func steps(answers ...api.Answer) api.Run {
	at := 0
	for i := range answers {
		answers[i].Begin, answers[i].End = at+1, at+answers[i].Own
		at += answers[i].Own
	}
	return api.Run{Answers: [][]api.Answer{answers}, Steps: at}
}

func TestExampleOfPlay(t *testing.T) {
	calls := []api.Call{begin(10), write(20), snap(0), write(30), shorten(), peek(0), free(0), shorten(), advance(), advance(), collect(), read()}
	answers := []api.Answer{
		own(8, good()), own(16, good()), own(5, newest(0, 1)), own(16, good()), own(14, number(2)), own(6, number(20)), own(1, good()), own(12, number(2)),
		own(4, good()), own(4, good()), own(17, number(4)), own(7, newest(30, 2)),
	}
	rows := [][][]int{
		{{1, 7, 0}, {0, 0}, {10, 1}}, {{1, 5, 0}, {0, 0}, {20, 1}, {10, 1}}, {{1, 5, 0}, {2, 0}, {20, 1}, {10, 1}}, {{1, 3, 0}, {2, 0}, {30, 2}, {20, 1}, {10, 1}},
		{{1, 3, 0}, {2, 0}, {30, 2}, {20, 1}}, {{1, 3, 0}, {2, 0}, {30, 2}, {20, 1}}, {{1, 3, 0}, {0, 0}, {30, 2}, {20, 1}}, {{1, 3, 0}, {0, 0}, {30, 2}},
		{{2, 3, 0}, {0, 0}, {30, 2}}, {{3, 3, 0}, {0, 0}, {30, 2}}, {{3, 7, 0}, {0, 0}, {30, 2}}, {{3, 7, 0}, {0, 0}, {30, 2}},
	}
	for i := range calls {
		wantPlay(t, "example", mixed{sizes{9, 2, 2}, work(calls[:i+1])}, steps(answers[:i+1]...), rows[i])
	}
}

// Each Kind: its lines, its answer's fields, where it goes well and where it doesn't; the rows behind it.
func TestPlaysCalls(t *testing.T) {
	wantPlay(t, "P17.2", mixed{sizes{9, 3, 2}, work([]api.Call{
		write(1), read(), shorten(), peek(0), peek(-1), peek(4), free(0), free(-1), free(4), snap(-1), snap(4), advance(), collect(),
		snap(3), snap(3), peek(3), begin(10), begin(11), peek(3), read(), write(20), peek(3), read(),
		snap(0), snap(1), free(0), snap(1), free(3), free(3), peek(3), write(30), write(40), write(50), shorten(), peek(1), {Kind: 10}, {Kind: 0},
	})}, steps(
		own(2+3+1+4+1, failed(none)), own(4, failed(none)), own(7, number(0)), own(1, failed(noLease)), own(1, failed(noCall)), own(1, failed(noCall)),
		own(1, failed(noLease)), own(1, failed(full)), own(1, failed(full)), own(1, failed(full)), own(1, failed(full)), own(5, good()), own(1, number(0)),
		own(5, newest(0, 1)), own(1, failed(full)), own(1, failed(none)), own(8, good()), own(3+3+1+1+4+4, failed(once)), own(4, number(10)), own(7, newest(10, 1)), own(16, good()), own(6, number(10)), own(7, newest(20, 2)),
		own(6, newest(1, 2)), own(2, failed(noLeases)), own(1, good()), own(6, newest(1, 3)), own(1, good()), own(1, failed(noLease)), own(1, failed(noLease)),
		own(16, good()), own(16, good()), own(2+3+3+1+4+1, failed(noRoom)), own(2+3+6+1+2+1+1, number(2)), own(8, number(20)), own(1, failed(noCall)), own(1, failed(noCall)),
	), [][]int{{2, 1, 0}, {0, 4}, {40, 4}, {30, 4}, {20, 2}})
}

// A Kind that can't be: a line, whatever comes with it.
func TestKindsThatCantBe(t *testing.T) {
	for _, kind := range badKinds {
		for _, a := range []int{lowest, -1, 0, 3, 4, highest} {
			c := api.Call{Kind: kind, A: a, B: 1, C: 2, Pairs: []api.Pair{{Key: 5, Value: 2}}}
			wantPlay(t, "P17.2: a Kind that can't be", mixed{sizes{3, 1, 1}, work([]api.Call{c, begin(7), c, snap(0), c})},
				steps(own(1, failed(noCall)), own(8, good()), own(1, failed(noCall)), own(5, newest(0, 1)), own(1, failed(noCall))), [][]int{{1, 1, 0}, {2}, {7, 1}})
		}
	}
}

// Registers: none, empty ones, taken ones; each worker has its own.
func TestRegisters(t *testing.T) {
	for _, bad := range badRegisters {
		wantPlay(t, "P17.2: no register", mixed{sizes{3, 1, 1}, work([]api.Call{snap(bad), free(bad), peek(bad), begin(1), snap(0), snap(bad), free(bad), peek(bad)})}, steps(
			own(1, failed(full)), own(1, failed(full)), own(1, failed(noCall)), own(8, good()), own(5, newest(0, 1)), own(1, failed(full)), own(1, failed(full)), own(1, failed(noCall)),
		), [][]int{{1, 1, 0}, {2}, {1, 1}})
	}
	for i := range 4 {
		wantPlay(t, "P17.2: a register", mixed{sizes{3, 1, 2}, work([]api.Call{begin(1), peek(i), free(i), snap(i), snap(i), peek(i), free(i), free(i), peek(i), snap(i), peek((i + 1) % 4)})}, steps(
			own(8, good()), own(1, failed(noLease)), own(1, failed(noLease)), own(5, newest(0, 1)), own(1, failed(full)), own(4, number(1)), own(1, good()), own(1, failed(noLease)), own(1, failed(noLease)),
			own(5, newest(0, 2)), own(1, failed(noLease)),
		), [][]int{{1, 1, 0}, {3, 0}, {1, 1}})
	}
	// Of two workers: what the one took the other one hasn't.
	x := mixed{sizes{6, 2, 8}, work([]api.Call{begin(1), snap(0), snap(1), snap(2), snap(3)}, []api.Call{free(0), peek(1), snap(0), snap(1), snap(2), snap(3), free(2)})}
	x.c.Turns = make([]int, 8+5+6+7+8)
	run, left := wantModel(t, "P17.2: two workers' registers", x)
	for i, want := range []api.Answer{failed(noLease), failed(noLease), newest(4, 5), newest(5, 6), newest(6, 7), newest(7, 8), good()} {
		if !sameAnswer(run.Answers[1][i], want) {
			t.Errorf("P17.2: two workers' registers: call %d: %+v, want %+v", i, run.Answers[1][i], want)
		}
	}
	if !slices.Equal(left.leases, []int{2, 3, 4, 5, 6, 7, 0, 9}) {
		t.Errorf("P17.2: two workers' registers: %+v", left)
	}
	// A Snap that found no lease leaves its register empty.
	wantPlay(t, "P17.2: no lease", mixed{sizes{1, 1, 1}, work([]api.Call{snap(0), snap(1), free(1), free(0), snap(1), free(1)})}, steps(
		own(5, newest(0, 1)), own(1, failed(noLeases)), own(1, failed(noLease)), own(1, good()), own(5, newest(0, 2)), own(1, good()),
	), [][]int{{1, 1, 0}, {0}})
}

// Values may be any int.
func TestValues(t *testing.T) {
	for _, a := range farNumbers {
		for _, b := range []int{lowest, -1, 0, highest} {
			wantPlay(t, "P17.2: values", mixed{sizes{4, 1, 1}, work([]api.Call{begin(a), read(), snap(0), peek(0), write(b), read(), peek(0)})}, steps(
				own(8, good()), own(7, newest(a, 1)), own(5, newest(0, 1)), own(4, number(a)), own(16, good()), own(7, newest(b, 2)), own(6, number(a)),
			), [][]int{{1, 0, 0}, {2}, {b, 2}, {a, 1}})
		}
	}
}

// A pool that is full at each Take of Begin, of First, of Write, of Push: what was taken is given back, and the worker leaves.
func TestFullPools(t *testing.T) {
	wantPlay(t, "P17.2: First finds no room", mixed{sizes{1, 1, 1}, work([]api.Call{begin(1), begin(2), read(), advance(), advance()})}, steps(
		own(3+1+4, failed(noRoom)), own(8, failed(noRoom)), own(4, failed(none)), own(3, good()), own(3, good()),
	), [][]int{{3, 1, 0}, {0}})
	wantPlay(t, "P17.2: a value finds no room", mixed{sizes{2, 1, 1}, work([]api.Call{begin(1), begin(2), write(3), read(), advance(), advance()})}, steps(
		own(8, good()), own(1, failed(noRoom)), own(2+1+1, failed(noRoom)), own(7, newest(1, 1)), own(3, good()), own(3, good()),
	), [][]int{{3, 0, 0}, {0}, {1, 1}})
	wantPlay(t, "P17.2: a version finds no room", mixed{sizes{3, 1, 1}, work([]api.Call{begin(1), begin(2), write(3), write(4), read(), advance(), advance()})}, steps(
		own(8, good()), own(3+1+4, failed(noRoom)), own(2+3+2+1+1+4+1, failed(noRoom)), own(14, failed(noRoom)), own(7, newest(1, 1)), own(3, good()), own(3, good()),
	), [][]int{{3, 1, 0}, {0}, {1, 1}})
	wantPlay(t, "P17.2: there is room", mixed{sizes{4, 1, 1}, work([]api.Call{begin(1), begin(2), write(3), write(4)})}, steps(
		own(8, good()), own(3+3+1+1+4+4, failed(once)), own(16, good()), own(4, failed(noRoom)),
	), [][]int{{1, 0, 0}, {0}, {3, 1}, {1, 1}})
}

// A Begin and a Write that find something else than they came for, at each of their lines.
func TestBesideOthers(t *testing.T) {
	seen := map[string]int{}
	for at := range 8 + 1 {
		x := mixed{sizes{20, 2, 1}, work([]api.Call{begin(1)}, []api.Call{begin(2), read()})}
		x.c.Turns = append(make([]int, at), slices.Repeat([]int{1}, 30)...)
		run, left := wantModel(t, "P17.2: two Begins", x)
		a, b := run.Answers[0][0], run.Answers[1]
		if a.Ok == b[0].Ok || !a.Ok && a.Err != once || !b[0].Ok && b[0].Err != once || left.used() != 2 {
			t.Errorf("P17.2: a Begin broken off behind %d lines: %+v, %+v", at, run, left)
		}
		seen[fmt.Sprint("begin ", a.Ok)]++
	}
	for at := range 16 + 1 {
		for _, other := range []api.Call{write(3), begin(3), shorten(), read()} {
			x := sideBySide(sizes{20, 2, 1}, []api.Call{begin(1), write(9)}, []int{at}, slices.Repeat([]int{1}, 40), []api.Call{write(2), read()}, []api.Call{other})
			run, left := wantModel(t, "P17.2: a Write", x)
			a, b := run.Answers[0], run.Answers[1][0]
			last := 2
			if other.Kind == 2 && at >= 12 {
				last = 3 // it is published already, and the other one upon it
			}
			if !a[2].Ok || a[3].N != last || b.Ok != (other.Kind != 1) || left.faults != 0 || run.Cut {
				t.Errorf("P17.2: a Write broken off behind %d lines by %+v: %+v, %+v", at, other, run, left)
			}
			seen[fmt.Sprint("rounds ", a[2].Own > 16)]++
		}
	}
	for _, what := range []string{"begin true", "begin false", "rounds true", "rounds false"} {
		if seen[what] == 0 {
			t.Errorf("the cases are too plain: %v", seen)
		}
	}
}

// A Write that goes round does no more than it must: Top, Read and Push again; its value's slot stays.
func TestWriteGoesRound(t *testing.T) {
	for rounds := 1; rounds <= 4; rounds++ {
		x := sideBySide(sizes{40, 2, 1}, []api.Call{begin(1)}, []int{2 + 3}, nil, []api.Call{write(2), shorten()}, slices.Repeat([]api.Call{write(3)}, rounds))
		for range rounds {
			x.c.Turns = append(x.c.Turns, 0, 0, 0)                           // Top and Read
			x.c.Turns = append(x.c.Turns, slices.Repeat([]int{1}, 16)...)    // a Write
			x.c.Turns = append(x.c.Turns, slices.Repeat([]int{0}, 3+1+4)...) // Push: too late
		}
		run, left := wantModel(t, "P17.2: a Write goes round", x)
		a := run.Answers[0]
		if want := 16 + rounds*(3+3+1+4); a[1].Own != want || !a[1].Ok || a[2].N != 2*(rounds+1) || left.rows()[2][0] != 2 {
			t.Errorf("P17.2: %d rounds: %+v, want %d lines, %+v", rounds, run, want, left)
		}
	}
}

// What a call has no use for isn't looked at.
func TestFieldsWithoutUse(t *testing.T) {
	calls := []api.Call{begin(5), write(7), read(), snap(0), write(8), peek(0), shorten(), free(0), shorten(), advance(), advance(), collect(), read(), {Kind: 12}}
	want, left := wantModel(t, "P17.2: fields", mixed{sizes{9, 1, 1}, work(calls)})
	for _, n := range []int{lowest, -1, 0, 1, 5, 8, 9, highest} {
		var list []api.Call
		for _, c := range calls {
			if c.Kind == 3 || c.Kind > 6 {
				c.A = n
			}
			c.B, c.C, c.Pairs = n, -n, []api.Pair{{Key: n, Value: n}}
			list = append(list, c)
		}
		wantPlay(t, "P17.2: fields", mixed{sizes{9, 1, 1}, work(list)}, want, left.rows())
	}
}

// Of an answer a call tells its own fields alone; beside an error none.
func TestFieldsOfAnswers(t *testing.T) {
	mixedPlays(700, manners{wild: true}, func(x mixed) {
		run, _, err := x.play()
		if err != api.OK {
			t.Fatalf("P17.2: %+v: %v", x, err)
		}
		for k, answers := range run.Answers {
			for i, a := range answers {
				c := x.c.Work[k][i]
				switch {
				case a.Err != api.OK && (a.Ok || a.N != 0 || a.M != 0), len(a.Ints) != 0, len(a.Pairs) != 0:
					t.Fatalf("rule 4: %+v: %+v", c, a)
				case a.M != 0 && c.Kind != 3 && c.Kind != 4, a.N != 0 && (c.Kind < 3 || c.Kind == 5 || c.Kind == 8 || c.Kind > 9):
					t.Fatalf("P17.2: %+v: %+v", c, a)
				case a.Err == api.OK && !a.Ok && c.Kind != 8:
					t.Fatalf("P17.2: %+v: %+v", c, a)
				case c.Kind < 1 || c.Kind > 9:
					if a.Err != noCall || a.Own != 1 {
						t.Fatalf("P17.2: %+v: %+v", c, a)
					}
				}
			}
		}
	})
}

// Workers that the epoch doesn't know: of a Play for fewer than there are, the nearest number that may be.
func TestWorkersOfTheEpoch(t *testing.T) {
	for workers, known := range map[int]int{lowest: 1, -1: 1, 0: 1, 1: 1, 2: 2, 3: 3, 8: 8, 9: 8, highest: 8} {
		x := mixed{sizes{60, workers, 8}, work()}
		for k := range 8 {
			x.c.Work = append(x.c.Work, []api.Call{begin(k), write(9), read(), snap(0), peek(0), free(0), shorten(), advance(), collect(), {Kind: 10}})
		}
		x.c.Turns = make([]int, 8*120)
		run, _ := wantModel(t, "P17.2: workers", x)
		for k, a := range run.Answers {
			for i, want := range []api.Errno{once, noWorker, noWorker, api.OK, api.OK, api.OK, noWorker, api.OK, noWorker, noCall} {
				if k == 0 && i == 0 || k < known && want == noWorker {
					want = api.OK
				}
				if a[i].Err != want || want == noWorker && a[i].Own != 1 || i == 7 && a[i].Ok != (k < known) {
					t.Errorf("P17.2: %d workers: worker %d, call %d: %+v", workers, k, i, a[i])
				}
			}
		}
	}
}

// The rows: of each version its value and its stamp, also of one that isn't settled yet; leases as they are, also one that is being taken.
func TestRows(t *testing.T) {
	for at := 1; at <= 16; at++ {
		c := work([]api.Call{begin(lowest), snap(2), write(highest)})
		c.Halt = []int{8 + 5 + at}
		_, left := wantModel(t, "P17.2: rows", mixed{sizes{9, 1, 2}, c})
		want := [][]int{{lowest, 1}}
		switch {
		case at >= 15:
			want = [][]int{{highest, 2}, {lowest, 1}}
		case at >= 12:
			want = [][]int{{highest, 0}, {lowest, 1}}
		}
		if got := left.rows(); !sameLists(got[2:], want) || !slices.Equal(got[1], []int{2, 0}) {
			t.Errorf("P17.2: halted behind %d lines of a Write: %v", at, got)
		}
	}
	for at, want := range [][]int{1: {1}, 2: {1}, 3: {2}, 4: {2}} {
		if at == 0 {
			continue
		}
		c := work([]api.Call{snap(0)})
		c.Halt = []int{at}
		wantPlay(t, "P17.2: rows", mixed{sizes{9, 1, 1}, c}, api.Run{Answers: [][]api.Answer{nil}, Open: []api.Open{{Worker: 0, Begin: 1, Own: at}}, Steps: at}, [][]int{{1, 9, 0}, want})
	}
}

// stop: a call behind others, all of worker 0.
type stop struct {
	name  string
	z     sizes
	ahead []api.Call
	call  api.Call
	lines int
}

func stops() []stop {
	z := sizes{12, 2, 2}
	at := []api.Call{begin(1), write(2), snap(0), write(3)}
	return []stop{
		{"Begin", z, nil, begin(1), 8},
		{"Begin that comes too late", z, at, begin(1), 16},
		{"Begin without room for its value", sizes{2, 2, 1}, []api.Call{begin(1)}, begin(2), 1},
		{"Begin without room for its version", sizes{1, 2, 1}, nil, begin(2), 8},
		{"Write", z, at, write(4), 16},
		{"Write of no version", z, nil, write(4), 11},
		{"Write without room for its value", sizes{2, 2, 1}, []api.Call{begin(1)}, write(2), 4},
		{"Write without room for its version", sizes{3, 2, 1}, []api.Call{begin(1)}, write(2), 14},
		{"Read", z, at, read(), 7},
		{"Read of no version", z, nil, read(), 4},
		{"Snap", z, at, snap(1), 6},
		{"Snap without a lease", z, append(slices.Clone(at), snap(1)), snap(2), 2},
		{"Snap of no register", z, at, snap(4), 1},
		{"Free", z, at, free(0), 1},
		{"Free of nothing", z, at, free(1), 1},
		{"Peek", z, at, peek(0), 6},
		{"Peek of no version", z, []api.Call{snap(0)}, peek(0), 1},
		{"Peek of nothing", z, at, peek(1), 1},
		{"Trim", z, at, shorten(), 14},
		{"Trim of more", z, append(slices.Clone(at), free(0)), shorten(), 15},
		{"Trim of nothing", z, nil, shorten(), 7},
		{"Advance", z, at, advance(), 4},
		{"Collect", z, append(slices.Clone(at), shorten(), advance(), advance()), collect(), 9},
		{"no call", z, at, api.Call{Kind: 10}, 1},
	}
}

// A call that is stopped for good has done its lines and no more; what others do behind it tells who is within, what waits and what is there.
func TestHaltsAndCutsAtEveryLine(t *testing.T) {
	others := []api.Call{advance(), advance(), read(), snap(0), peek(0), write(7), shorten(), advance(), advance(), collect(), begin(8), read()}
	for _, x := range stops() {
		ahead := linesOf(x.z, x.ahead...)
		calls := append(slices.Clone(x.ahead), x.call, read())
		if got := linesOf(x.z, calls[:len(calls)-1]...) - ahead; got != x.lines {
			t.Errorf("P17.2: %s: the model does %d lines, want %d", x.name, got, x.lines)
		}
		for at := 1; at <= x.lines; at++ {
			open, ended := []api.Open{{Worker: 0, Begin: ahead + 1, Own: at}}, len(x.ahead)
			if at == x.lines {
				open, ended = nil, ended+1
			}
			c := work(calls)
			c.Until = ahead + at
			run, left := wantModel(t, "P17.2: "+x.name, mixed{x.z, c})
			if !run.Cut || run.Steps != ahead+at || !slices.Equal(run.Open, open) || len(run.Answers[0]) != ended || left.faults != 0 {
				t.Errorf("P17.2: %s, cut behind %d lines: %+v, %+v", x.name, at, run, left)
			}
			f := wantFilm(t, "P17.2: "+x.name, mixed{x.z, c})
			if last := f.moments[len(f.moments)-1]; !last.same(left) {
				t.Errorf("P17.2: %s, cut behind %d lines: %+v, want %+v", x.name, at, left, last)
			}
			c = work(calls, others)
			c.Turns, c.Halt = make([]int, ahead+at), []int{ahead + at}
			run, left = wantModel(t, "P17.2: "+x.name, mixed{x.z, c})
			if run.Cut || !slices.Equal(run.Open, open) || len(run.Answers[0]) != ended || len(run.Answers[1]) != len(others) || left.faults != 0 {
				t.Errorf("P17.2: %s, halted behind %d lines: %+v, %+v", x.name, at, run, left)
			}
			check(t, mixed{x.z, c})
		}
	}
}

// Every order of two calls, as far as the first turns go, against the model.
func TestEveryOrder(t *testing.T) {
	takesLong(t)
	for _, x := range []mixed{
		{sizes{8, 2, 1}, work([]api.Call{begin(1), write(2)}, []api.Call{begin(3), read()})},
		{sizes{3, 2, 1}, work([]api.Call{begin(1)}, []api.Call{begin(3), write(4)})},
		{sizes{8, 2, 1}, work([]api.Call{snap(0), peek(0)}, []api.Call{begin(3), shorten()})},
		{sizes{8, 2, 2}, work([]api.Call{snap(0), peek(0), free(0)}, []api.Call{snap(0), begin(3), peek(0)})},
		{sizes{8, 1, 1}, work([]api.Call{begin(1), write(2)}, []api.Call{write(3), peek(0), snap(1)})},
	} {
		orders(2, 11, func(turns []int) {
			x.c.Turns = turns
			if run, left := wantModel(t, "every order", x); run.Cut || left.faults != 0 || len(run.Open) != 0 {
				t.Fatalf("every order: %+v: %+v", x, run)
			}
		})
	}
}

func TestAgainstModel(t *testing.T) {
	counts := map[string]int{}
	errs := map[api.Errno]int{}
	for _, how := range []manners{{}, {wild: true}} {
		mixedPlays(2500, how, func(x mixed) {
			run, left := wantModel(t, "P17.2", x)
			for k, answers := range run.Answers {
				for i, a := range answers {
					errs[a.Err]++
					if a.Err == api.OK {
						counts[fmt.Sprintf("kind %d, %v", x.c.Work[k][i].Kind, a.Ok)]++
					}
				}
			}
			counts["open"] += len(run.Open)
			counts["cut"] += bit(run.Cut)
			counts["many versions"] += bit(len(left.versions) > 3)
			if left.faults != 0 {
				t.Fatalf("P17.3: %+v: %d faults", x, left.faults)
			}
		})
	}
	for _, err := range []api.Errno{api.OK, noCall, noRoom, noWorker, full, noLeases, noLease, none, once} {
		if errs[err] < 50 {
			t.Errorf("the cases are too plain: %v comes %d times", err, errs[err])
		}
	}
	for _, what := range []string{
		"kind 1, true", "kind 2, true", "kind 3, true", "kind 4, true", "kind 5, true", "kind 6, true", "kind 7, true", "kind 8, true", "kind 8, false", "kind 9, true", "open", "cut", "many versions",
	} {
		if counts[what] < 50 {
			t.Errorf("the cases are too plain: %d %s", counts[what], what)
		}
	}
}

// Calls by their names, spoilt chains among them: each of Trim's errors, at each of its places, step by step.
func TestSpoiltAgainstModel(t *testing.T) {
	takesLong(t)
	errs := map[api.Errno]int{}
	mixedPlays(2000, manners{named: true}, func(x mixed) {
		f := wantFilm(t, "P17.1: spoilt", x)
		for _, c := range f.calls() {
			if c.Kind == 7 && c.end != 0 {
				errs[c.answer.Err]++
			}
		}
	})
	if errs[api.OK] < 500 || errs[gone] < 20 || errs[noHandle] < 10 || errs[noWorker] < 50 {
		t.Errorf("the cases are too plain: %v", errs)
	}
}

func TestGreatestCase(t *testing.T) {
	m := mixer(3)
	c := api.Case{Turns: []int{0, 0, 0, 0, 0, 0, 0, 0}}
	for range api.MaxWorkers {
		var calls []api.Call
		for range api.MaxCalls {
			calls = append(calls, m.call(manners{wild: true}))
		}
		c.Work = append(c.Work, calls)
	}
	c.Work[0][0] = begin(1)
	for _, z := range []sizes{{mostSlots, 8, mostLeases}, {60, 8, 3}, {9, 8, 8}, {4, 8, 1}} {
		if run, left := wantModel(t, "P17.2: the greatest case", mixed{z, c}); run.Steps < 2000 || left.faults != 0 {
			t.Errorf("P17.2: the greatest case: %d steps", run.Steps)
		}
	}
}

func TestPlayIsTheSameEachTime(t *testing.T) {
	mixedPlays(200, manners{wild: true}, func(x mixed) {
		run, rows, err := x.play()
		for range 4 {
			again, then, e := x.play()
			if !sameRun(run, again) || !sameLists(rows, then) || e != err {
				t.Fatalf("rule 6: %+v\nonce %+v %v %v\nthen %+v %v %v", x, run, rows, err, again, then, e)
			}
		}
	})
}

// roomy copies a list into one with spare room, in which something stands.
func roomy(list []int) []int {
	room := append(slices.Clone(list), 71, 72, 73)
	return room[:len(list)]
}

// untouched tells whether a roomy list is as it was.
func untouched(list, was []int) bool {
	return slices.Equal(list, was) && slices.Equal(list[:len(list)+3][len(list):], []int{71, 72, 73})
}

// writeOver writes into a list and all the spare room behind it.
func writeOver(list []int) {
	list = list[:cap(list)]
	for i := range list {
		list[i] = -99
	}
}

func plainRows(rows [][]int) [][]int {
	var list [][]int
	for _, row := range rows {
		list = append(list, slices.Clone(row))
	}
	return list
}

func TestPlayKeepsToItsOwnMemory(t *testing.T) {
	told := 0
	mixedPlays(500, manners{wild: true}, func(x mixed) {
		c := plainCase(x.c)
		c.Turns, c.Halt = roomy(c.Turns), roomy(c.Halt)
		run, rows, _ := trim.Play(x.slots, x.workers, x.leases, c)
		if !untouched(c.Turns, x.c.Turns) || !untouched(c.Halt, x.c.Halt) {
			t.Fatalf("rule 3: Play changed what was handed in: %+v", c)
		}
		for k := range c.Work {
			for i := range c.Work[k] {
				if was := x.c.Work[k][i]; c.Work[k][i].Kind != was.Kind || c.Work[k][i].A != was.A {
					t.Fatalf("rule 3: Play changed what was handed in: %+v", c.Work[k][i])
				}
				c.Work[k][i] = api.Call{Kind: -99}
			}
		}
		keptRun, kept := plainRun(run), plainRows(rows)
		writeOver(c.Turns)
		writeOver(c.Halt)
		if !sameRun(run, keptRun) || !sameLists(rows, kept) {
			t.Fatalf("rule 3: an answer hangs on what was handed in: %+v", x)
		}
		for i := range rows {
			told++
			writeOver(rows[i])
			rows[i], kept[i] = nil, nil
			if !sameLists(rows, kept) || !sameRun(run, keptRun) {
				t.Fatalf("rule 3: two rows share memory: %+v", x)
			}
		}
		wantModel(t, "rule 3: behind answers that were written over", x)
	})
	if told < 1200 {
		t.Errorf("the cases are too plain: %d", told)
	}
}

func TestPlayLeavesNothing(t *testing.T) {
	before := runtime.NumGoroutine()
	mixedPlays(200, manners{wild: true}, func(x mixed) { x.play() })
	for range 500 {
		if runtime.NumGoroutine() <= before {
			return
		}
		time.Sleep(time.Millisecond)
	}
	t.Errorf("P17.2: %d goroutines, %d ahead of it", runtime.NumGoroutine(), before)
}
