package scan_test

import (
	"fmt"
	"runtime"
	"slices"
	"testing"

	"skein/api"
	"skein/scan"
	"skein/store"
)

// New's error comes ahead of the case's.
func TestPlayRefuses(t *testing.T) {
	fine := work([]api.Call{get(1)})
	refuses := func(s api.Setup, c api.Case, want api.Errno) {
		t.Helper()
		run, rows, err := scan.Play(s, c)
		if err != want || !sameRun(run, api.Run{}) || len(rows) != 0 {
			t.Errorf("P19.6: Play(%+v, %+v): %+v, %v, %v, want %v", s, c, run, rows, err, want)
		}
	}
	refuses(api.Setup{}, fine, noSetup)
	for _, c := range []api.Case{
		{},
		{Work: make([][]api.Call, 9)},
		work(nil, make([]api.Call, 65)),
		{Work: fine.Work, Until: -1},
		{Work: fine.Work, Until: lowest},
		{Work: fine.Work, Until: api.MaxSteps + 1},
		{Work: fine.Work, Until: highest},
	} {
		refuses(plain, c, api.ErrCrewCase)
		for _, f := range []func(s *api.Setup){
			func(s *api.Setup) { s.Parts = 0 }, func(s *api.Setup) { s.Parts = 65 }, func(s *api.Setup) { s.Workers = 9 }, func(s *api.Setup) { s.Slots = 0 }, func(s *api.Setup) { s.Leases = 65 },
			func(s *api.Setup) { s.Source = pairs(-1, 1) }, func(s *api.Setup) { s.Source = slices.Repeat(pairs(1, 1), 257) },
		} {
			s := plain
			f(&s)
			refuses(s, c, noSetup)
			refuses(s, fine, noSetup)
		}
	}
}

// All sizes that may be; a Play without calls tells what there is at first.
func TestIdlePlay(t *testing.T) {
	for _, parts := range []int{1, mostParts} {
		for _, slots := range []int{1, mostSlots} {
			for _, leases := range []int{1, mostLeases} {
				for _, workers := range []int{1, 8} {
					s := api.Setup{Parts: parts, Workers: workers, Slots: slots, Leases: leases, Source: pairs(1, 2), Fails: 1}
					rows := append([][]int{{1, slots, 0}, make([]int, leases), nil}, slices.Repeat([][]int{{0}}, parts)...)
					wantPlay(t, "P19.6: no calls", s, work(nil, nil), api.Run{Answers: [][]api.Answer{nil, nil}}, rows)
				}
			}
		}
	}
}

// The document's example as a Play: each call's lines and its answer's fields, and the rows behind it.
func TestExampleOfPlay(t *testing.T) {
	calls := []api.Call{
		snap(0), put(2, 21), drop(1), put(3, 30), snap(1), ranged(0, 0, mostKey), ranged(1, 2, 3), counted(0, 2, mostKey), paged(0, -1, 2), paged(0, 2, 2), differ(0, 1), ranged(0, 5, 4), ranged(0, -1, 4),
	}
	const loadsFirst = 2 + (3 + 1 + 6) + 5 + 1
	answers := []api.Answer{
		own(5, held(0, 1)), own(loadsFirst+2+2+1+2+6+7+1, wrote(20, 2, 1)), own(1+2+2+1+2+7+1, wrote(10, 3, 1)), own(1+2+2+1+1+6+7+1, wrote(0, 4, 0)), own(6, held(1, 2)),
		own(11+3+15+1, gave(1, 10, 2, 20, far, 40)), own(5+3, gave(2, 21, 3, 30)), own(11+2+1+5+1, number(2)), own(11+3+5+1, more(1, 10, 2, 20)), own(11+2+5+1, last(far, 40)),
		own(11+5+6+10, changed(change(1, 10, lacking), change(2, 20, 21), change(3, lacking, 30))), own(1, gave()), own(1, failed(api.ErrScanRange)),
	}
	rows := [][]int{{1, 100 - 4 - 3 - 1 - 3 - 2, 0}, {2, 3, 0}, {}, {2, 4, 2, 2, 21, 3, 30}, {2, 1, 1, far, 40}}
	wantPlay(t, "example", example, work(calls), steps(answers...), rows)
}

// Each scan, where it goes well and where it doesn't: its lines, its answer's fields.
func TestPlaysCalls(t *testing.T) {
	s := api.Setup{Parts: 1, Workers: 2, Slots: 60, Leases: 2, Source: pairs(1, 10, 2, 20)}
	wantPlay(t, "P19.6", s, work([]api.Call{
		get(1), snap(0), ranged(0, 0, mostKey), ranged(0, 2, 1), ranged(0, -1, 1), ranged(0, 0, mostKey+1), ranged(1, 0, 1), ranged(4, 0, 1), ranged(-1, -1, -1),
		counted(0, 0, mostKey), counted(0, 2, 5), counted(0, 2, 1), counted(0, -1, 1), counted(1, 0, 1), counted(4, 0, 1),
		paged(0, -1, 1), paged(0, -1, 2), paged(0, 1, 1), paged(0, 2, 1), paged(0, mostKey, 1), paged(0, -2, 1), paged(0, 0, 0), paged(0, 0, 1001), paged(1, 0, 1), paged(4, 0, 1),
		put(2, 21), snap(3), differ(0, 3), differ(3, 0), differ(0, 0), differ(0, 1), differ(1, 0), differ(0, 4), differ(4, 0), differ(4, 1), differ(1, 4), differ(1, 2), differ(-1, 4),
		{Kind: 20}, {Kind: 0},
	}), steps(
		own(2+10+5+1+2+2+1+2+1, read(10, 1)), own(5, held(0, 1)),
		own(8, gave(1, 10, 2, 20)), own(1, gave()), own(1, failed(noRange)), own(1, failed(noRange)), own(1, failed(noSnap)), own(1, failed(noCall)), own(1, failed(noCall)),
		own(6, number(2)), own(5+2+1, number(1)), own(1, number(0)), own(1, failed(noRange)), own(1, failed(noSnap)), own(1, failed(noCall)),
		own(8, more(1, 10)), own(8, last(1, 10, 2, 20)), own(7, last(2, 20)), own(7, last()), own(1, last()), own(1, failed(noRange)), own(1, failed(noRange)), own(1, failed(noRange)), own(1, failed(noSnap)), own(1, failed(noCall)),
		own(1+2+2+1+2+6+7+1, wrote(20, 2, 1)), own(6, held(1, 2)), own(7+5+4, changed(change(2, 20, 21))), own(5+7+4, changed(change(2, 21, 20))), own(7+7, changed()),
		own(1, failed(noSnap)), own(1, failed(noSnap)), own(1, failed(noCall)), own(1, failed(noCall)), own(1, failed(noCall)), own(1, failed(noSnap)), own(1, failed(noSnap)), own(1, failed(noCall)),
		own(1, failed(noScan)), own(1, failed(noScan)),
	), [][]int{{1, 60 - 4 - 3, 0}, {2, 3}, {}, {2, 2, 2, 1, 10, 2, 21}})
}

// A scan that meets an error tells what was given ahead of it, if it is a Range or a Diff; a Count and a Page tell the error alone.
func TestErrorsOfPlay(t *testing.T) {
	ofFirst := gave(1, 10, 2, 20)
	one := changed(change(1, 10, 11))
	calls := []api.Call{put(1, 10), snap(0), ranged(0, 0, mostKey), counted(0, 0, mostKey), paged(0, -1, 3), paged(0, -1, 1), put(1, 11), snap(1), differ(0, 1), differ(1, 0)}
	s := broad
	s.Slots = 4 + 3
	wants := func(name string, err api.Errno, lines int, c api.Case, s api.Setup) {
		t.Helper()
		run, _ := wantModel(t, "P19.6: "+name, mixed{s: s, c: c})
		for i, want := range []api.Answer{
			own(8+lines, failing(err, ofFirst)), own(6+lines, failed(err)), own(8+lines, failed(err)), own(8, more(1, 10)), {}, {}, own(7+5+4+lines, failing(err, one)), own(5+7+4+lines, failing(err, changed(change(1, 11, 10)))),
		} {
			if a := run.Answers[0][2+i]; i != 4 && i != 5 && (!sameAnswer(a, want) || a.Own != want.Own) {
				t.Errorf("P19.6: %s: %+v: %+v, want %+v", name, calls[2+i], a, want)
			}
		}
	}
	// Another worker is halted in the midst of loading the second part.
	c := work(calls, []api.Call{get(far)})
	c.Turns, c.Halt = []int{1, 1, 1}, []int{0, 3}
	wants("busy", busy, 2, c, broad)
	// No room to load it: while a Put of the first part has room for what it makes.
	run, left := wantModel(t, "P19.6: no room", mixed{s: s, c: work([]api.Call{snap(0), get(1), put(1, 11), ranged(0, 0, mostKey), counted(0, 0, mostKey), paged(0, -1, 2), snap(1), differ(0, 1)})})
	for i, want := range []api.Answer{failing(noRoom, ofFirst), failed(noRoom), failed(noRoom), held(1, 2), failing(noRoom, one)} {
		if a := run.Answers[0][3+i]; !sameAnswer(a, want) {
			t.Errorf("P19.6: no room: %+v, want %+v", a, want)
		}
	}
	if rows := left.rows(); !sameLists(rows, [][]int{{1, 0, 0}, {2, 3, 0}, {}, {2, 2, 2, 1, 11, 2, 20}, {0}}) {
		t.Errorf("P19.6: no room: %v", rows)
	}
	// A loading that fails.
	s = broad
	s.Fails = 1
	run, _ = wantModel(t, "P19.6: it fails", mixed{s: s, c: work([]api.Call{snap(0), ranged(0, 0, mostKey), ranged(0, 0, mostKey), ranged(0, 0, mostKey)})})
	for i, want := range []api.Answer{failed(fails), failing(fails, ofFirst), gave(1, 10, 2, 20, far, 40)} {
		if a := run.Answers[0][1+i]; !sameAnswer(a, want) {
			t.Errorf("P19.6: it fails: %+v, want %+v", a, want)
		}
	}
}

// A Kind that can't be: a line, whatever comes with it; the error is the scan's, a register's is the map's.
func TestKindsThatCantBe(t *testing.T) {
	s := api.Setup{Parts: 1, Workers: 1, Slots: 3, Leases: 1}
	for _, kind := range badKinds {
		for _, a := range []int{lowest, -1, 0, 3, 4, highest} {
			c := api.Call{Kind: kind, A: a, B: 1, C: 2, Pairs: pairs(5, 2)}
			wantPlay(t, "P19.6: a Kind that can't be", s, work([]api.Call{c, put(7, 1), c, snap(0), c}),
				steps(own(1, failed(noScan)), own(2+5+1+2+2+1+3+4+3+1, wrote(0, 2, 0)), own(1, failed(noScan)), own(5, held(0, 1)), own(1, failed(noScan))), [][]int{{1, 0, 0}, {2}, {}, {2, 2, 1, 7, 1}})
		}
	}
}

// Registers: none, empty ones; each worker has its own, and a scan leaves them as they are.
func TestRegisters(t *testing.T) {
	s := api.Setup{Parts: 1, Workers: 1, Slots: 9, Leases: 8, Source: pairs(1, 10)}
	for _, bad := range badRegisters {
		wantPlay(t, "P19.6: no register", s, work([]api.Call{
			ranged(bad, 0, 1), counted(bad, 0, 1), paged(bad, 0, 1), differ(bad, 0), differ(0, bad), snap(0), ranged(bad, -1, 1), counted(bad, -1, 1), paged(bad, -2, 1), differ(bad, 0), differ(0, bad), differ(bad, bad), differ(1, bad),
		}), steps(
			own(1, failed(noCall)), own(1, failed(noCall)), own(1, failed(noCall)), own(1, failed(noCall)), own(1, failed(noSnap)), own(5, held(0, 1)),
			own(1, failed(noCall)), own(1, failed(noCall)), own(1, failed(noCall)), own(1, failed(noCall)), own(1, failed(noCall)), own(1, failed(noCall)), own(1, failed(noSnap)),
		), [][]int{{1, 9, 0}, {2, 0, 0, 0, 0, 0, 0, 0}, {}, {0}})
	}
	for i := range 4 {
		o := (i + 1) % 4
		wantPlay(t, "P19.6: a register", s, work([]api.Call{
			get(1), ranged(i, 0, 1), snap(i), ranged(i, 0, 1), ranged(i, 0, 1), counted(i, 0, 1), paged(i, -1, 1), differ(i, i), ranged(o, 0, 1), counted(o, 0, 1), paged(o, -1, 1), differ(i, o), differ(o, i), free(i),
			ranged(i, 0, 1), counted(i, 0, 1), paged(i, 0, 1), differ(i, i), snap(i), name(5, i), ranged(i, 0, 1),
		}), steps(
			own(2+3+5+1+2+2+1+1+1, read(10, 1)), own(1, failed(noSnap)), own(5, held(0, 1)), own(6, gave(1, 10)), own(6, gave(1, 10)), own(6, number(1)), own(6, last(1, 10)), own(10, changed()),
			own(1, failed(noSnap)), own(1, failed(noSnap)), own(1, failed(noSnap)), own(1, failed(noSnap)), own(1, failed(noSnap)), own(1, good()),
			own(1, failed(noSnap)), own(1, failed(noSnap)), own(1, failed(noSnap)), own(1, failed(noSnap)), own(5, held(0, 2)), own(2, good()), own(1, failed(noSnap)),
		), [][]int{{1, 7, 0}, {3, 0, 0, 0, 0, 0, 0, 0}, {5, 2}, {2, 1, 1, 1, 10}})
	}
	// Of two workers: what the one took the other one hasn't.
	s.Workers = 2
	x := mixed{s: s, c: work([]api.Call{get(1), snap(0), snap(1)}, []api.Call{ranged(0, 0, 1), counted(1, 0, 1), paged(0, -1, 1), differ(0, 1), put(1, 11), snap(0), ranged(0, 0, 1), differ(0, 1)})}
	x.c.Turns = make([]int, 19+5+6)
	run, _ := wantModel(t, "P19.6: two workers' registers", x)
	for i, want := range []api.Answer{failed(noSnap), failed(noSnap), failed(noSnap), failed(noSnap), wrote(10, 2, 1), held(2, 3), gave(1, 11), failed(noSnap)} {
		if !sameAnswer(run.Answers[1][i], want) {
			t.Errorf("P19.6: two workers' registers: call %d: %+v, want %+v", i, run.Answers[1][i], want)
		}
	}
}

// The map's calls are the map's: a Play without scans answers what store.Play does, but for a Kind that it hasn't.
func TestCallsOfTheMap(t *testing.T) {
	kinds := map[int]int{}
	mixedPlays(800, manners{wild: true}, func(x mixed) {
		for k := range x.c.Work {
			x.c.Work[k] = slices.DeleteFunc(x.c.Work[k], func(c api.Call) bool { return c.Kind >= 16 && c.Kind <= 19 })
		}
		run, rows, err := scan.Play(x.s, x.c)
		want, wantRows, wantErr := store.Play(x.s, x.c)
		for k, answers := range want.Answers {
			for i := range answers {
				kind := x.c.Work[k][i].Kind
				kinds[kind]++
				if kind < 1 || kind > 15 {
					if answers[i].Err != noCall {
						t.Fatalf("P18.8: %+v", answers[i])
					}
					answers[i].Err = noScan
				}
			}
		}
		if !sameRun(run, want) || !sameLists(rows, wantRows) || err != wantErr {
			t.Fatalf("P19.6: %+v\ngot  %+v %v %v\nwant %+v %v %v", x, run, rows, err, want, wantRows, wantErr)
		}
	})
	for kind := 1; kind <= 15; kind++ {
		if kinds[kind] < 20 {
			t.Errorf("the cases are too plain: kind %d comes %d times", kind, kinds[kind])
		}
	}
}

// What a call has no use for isn't looked at.
func TestFieldsWithoutUse(t *testing.T) {
	calls := []api.Call{put(1, 7), snap(0), put(2, 8), snap(1), ranged(0, 0, mostKey), counted(1, 1, 5), paged(1, -1, 1), differ(0, 1), {Kind: 20}}
	want, left := wantModel(t, "P19.6: fields", mixed{s: plain, c: work(calls)})
	for _, n := range []int{lowest, -1, 0, 1, 5, highest} {
		var list []api.Call
		for _, c := range calls {
			if c.Pairs = pairs(n, n); c.Kind == 19 {
				c.C = n
			}
			list = append(list, c)
		}
		wantPlay(t, "P19.6: fields", plain, work(list), want, left.rows())
	}
}

// Of an answer a call tells its own fields alone; beside an error none, but for what a Range and a Diff gave ahead of it.
func TestFieldsOfAnswers(t *testing.T) {
	counts := map[string]int{}
	mixedPlays(900, manners{wild: true}, func(x mixed) {
		run, _, err := scan.Play(x.s, x.c)
		if err != api.OK {
			t.Fatalf("P19.6: %+v: %v", x, err)
		}
		for k, answers := range run.Answers {
			for i, a := range answers {
				c := x.c.Work[k][i]
				wrong := a.M != 0
				switch c.Kind {
				case 16:
					wrong = wrong || a.N != 0 || len(a.Ints) != 0 || a.Ok != (a.Err == api.OK)
				case 17:
					wrong = wrong || len(a.Ints) != 0 || len(a.Pairs) != 0 || a.Ok != (a.Err == api.OK) || a.N != 0 && !a.Ok || a.N < 0
				case 18:
					wrong = wrong || len(a.Ints) != 0 || a.N != len(a.Pairs) || a.Err != api.OK && (a.Ok || a.N != 0) || a.Ok && a.N != c.C || a.N > max(0, c.C)
				case 19:
					wrong = wrong || a.N != 0 || len(a.Pairs) != 0 || a.Ok != (a.Err == api.OK) || len(a.Ints)%5 != 0
				default:
					continue
				}
				counts[fmt.Sprint(c.Kind, a.Err == api.OK, len(a.Ints)+len(a.Pairs)+a.N > 0)]++
				if wrong {
					t.Fatalf("P19.6: %+v: %+v", c, a)
				}
			}
		}
	})
	for _, what := range []string{"16 true true", "16 true false", "16 false false", "17 true true", "17 true false", "17 false false", "18 true true", "18 true false", "18 false false", "19 true true", "19 true false", "19 false false"} {
		if counts[what] < 20 {
			t.Errorf("the cases are too plain: %q comes %d times", what, counts[what])
		}
	}
}

// Workers that the epoch doesn't know scan as well as others: a scan enters nowhere.
func TestWorkersOfTheEpoch(t *testing.T) {
	s := api.Setup{Parts: 2, Workers: 1, Slots: 90, Leases: 16, Source: pairs(1, 10, far, 20)}
	x := mixed{s: s, c: work()}
	for range 8 {
		x.c.Work = append(x.c.Work, []api.Call{snap(0), ranged(0, 0, mostKey), counted(0, 1, mostKey), paged(0, -1, 1), snap(1), differ(0, 1)})
	}
	x.c.Turns = make([]int, 8*200)
	run, _ := wantModel(t, "P19.6: workers", x)
	for k, answers := range run.Answers {
		for i, want := range []api.Answer{gave(1, 10, far, 20), number(2), more(1, 10)} {
			if !sameAnswer(answers[1+i], want) {
				t.Errorf("P19.6: worker %d: %+v, want %+v", k, answers[1+i], want)
			}
		}
		if !sameAnswer(answers[5], changed()) {
			t.Errorf("P19.6: worker %d: %+v", k, answers[5])
		}
	}
}

// stop: a call behind others, all of worker 0.
type stop struct {
	name  string
	s     api.Setup
	ahead []api.Call
	call  api.Call
	lines int
}

func stops() []stop {
	failingOnce, small := broad, broad
	failingOnce.Fails = 1
	small.Slots = 5
	there := []api.Call{get(1), get(far), snap(0), put(1, 11), snap(1)}
	loads := []api.Call{snap(0)}
	const loadsFirst, loadsSecond = 1 + 2 + (3 + 1 + 6) + 5 + 1 + 2 + 1, 1 + 2 + 3 + 5 + 1 + 2 + 1
	return []stop{
		{"Range", broad, there, ranged(0, 0, mostKey), 7 + 3 + 6},
		{"Range that loads", broad, loads, ranged(0, 0, mostKey), loadsFirst + 3 + loadsSecond + 1},
		{"Range whose loading fails", failingOnce, loads, ranged(0, 0, mostKey), 4},
		{"Range without room to load", small, []api.Call{get(1), snap(0)}, ranged(0, 0, mostKey), 8 + 1 + 2 + 3 + 1 + 4 + 1},
		{"Range of one part", broad, there, ranged(1, 2, 5), 5 + 2},
		{"Range of nothing", broad, there, ranged(0, 2, 1), 1},
		{"no Range", broad, there, ranged(0, -2, 1), 1},
		{"Range by no register", broad, there, ranged(4, 0, 1), 1},
		{"Range by an empty register", broad, there, ranged(2, 0, 1), 1},
		{"Count", broad, there, counted(0, 2, mostKey-1), 7 + 2 + 1 + 6},
		{"Count that loads", broad, loads, counted(0, 0, mostKey), loadsFirst + 1 + loadsSecond + 1},
		{"Page", broad, there, paged(0, -1, 1), 7 + 3},
		{"Page of all", broad, there, paged(0, -1, 5), 7 + 3 + 6},
		{"Page behind the last one", broad, there, paged(0, mostKey, 5), 1},
		{"Page that loads", broad, loads, paged(0, 2, 1), loadsFirst + 2 + loadsSecond + 1},
		{"Diff", broad, there, differ(0, 1), 7 + 5 + 4 + 10},
		{"Diff of one", broad, there, differ(1, 1), 20},
		{"Diff that loads", broad, loads, differ(0, 0), loadsFirst + 5 + loadsSecond + 5},
		{"no call", broad, there, api.Call{Kind: 20}, 1},
	}
}

// A scan that is stopped for good has done its lines and no more; others go on, whatever it was at, but for writes of a part that it is in the midst of loading.
func TestHaltsAndCutsAtEveryLine(t *testing.T) {
	takesLong(t)
	others := []api.Call{advance(), get(1), snap(0), ranged(0, 0, mostKey), counted(0, 1, far), trim(0), advance(), collect(), paged(0, -1, 2), snap(1), differ(0, 1), advance(), names(), get(far)}
	writes := append([]api.Call{put(1, 12), put(far, 13)}, others...)
	for _, x := range stops() {
		ahead := linesOf(x.s, x.ahead...)
		calls := append(slices.Clone(x.ahead), x.call, ranged(0, 0, mostKey))
		if got := linesOf(x.s, calls[:len(calls)-1]...) - ahead; got != x.lines {
			t.Errorf("P19.6: %s: the model does %d lines, want %d", x.name, got, x.lines)
		}
		for at := 1; at <= x.lines; at++ {
			open, ended := []api.Open{{Worker: 0, Begin: ahead + 1, Own: at}}, len(x.ahead)
			if at == x.lines {
				open, ended = nil, ended+1
			}
			c := work(calls)
			c.Until = ahead + at
			run, left := wantModel(t, "P19.6: "+x.name, mixed{s: x.s, c: c})
			if !run.Cut || run.Steps != ahead+at || !slices.Equal(run.Open, open) || len(run.Answers[0]) != ended || left.faults != 0 {
				t.Errorf("P19.6: %s, cut behind %d lines: %+v, %+v", x.name, at, run, left)
			}
			f := check(t, mixed{s: x.s, c: c})
			if last := f.moments[len(f.moments)-1]; !last.same(left) {
				t.Errorf("P19.6: %s, cut behind %d lines: %+v, want %+v", x.name, at, left, last)
			}
			loading := slices.Contains(left.states, 1)
			c = work(calls, others)
			if !loading {
				c.Work[1] = writes
			}
			c.Turns, c.Halt = make([]int, ahead+at), []int{ahead + at}
			run, left = wantModel(t, "P19.6: "+x.name, mixed{s: x.s, c: c})
			if run.Cut || !slices.Equal(run.Open, open) || len(run.Answers[0]) != ended || len(run.Answers[1]) != len(c.Work[1]) || left.faults != 0 {
				t.Errorf("P19.6: %s, halted behind %d lines: %+v, %+v", x.name, at, run, left)
			}
			check(t, mixed{s: x.s, c: c})
		}
	}
}

func TestAgainstModel(t *testing.T) {
	takesLong(t)
	counts := map[string]int{}
	errs := map[string]int{}
	for _, how := range []manners{{}, {wild: true}, {busy: true}} {
		mixedPlays(1500, how, func(x mixed) {
			run, left := wantModel(t, "P19.6", x)
			for k, answers := range run.Answers {
				for i, a := range answers {
					kind := x.c.Work[k][i].Kind
					if kind < 16 || kind > 19 {
						kind = 0
					}
					errs[fmt.Sprint(kind, " ", int(a.Err))]++
					counts[fmt.Sprintf("kind %d, %v", kind, a.Ok)]++
				}
			}
			counts["open"] += len(run.Open)
			counts["cut"] += bit(run.Cut)
			if left.faults != 0 {
				t.Fatalf("P32.2: %+v: %d faults", x, left.faults)
			}
		})
	}
	for kind := 16; kind <= 19; kind++ {
		for _, err := range []api.Errno{api.OK, noCall, noSnap, busy, fails, noRoom} {
			if what := fmt.Sprint(kind, " ", int(err)); errs[what] < 10 {
				t.Errorf("the cases are too plain: %s comes %d times", what, errs[what])
			}
		}
		if what := fmt.Sprint(kind, " ", int(noRange)); kind < 19 && errs[what] < 10 {
			t.Errorf("the cases are too plain: %s comes %d times", what, errs[what])
		}
	}
	if counts["open"] < 300 || counts["cut"] < 300 || counts["kind 18, true"] < 100 || counts["kind 18, false"] < 100 || errs[fmt.Sprint("0 ", int(noScan))] < 100 {
		t.Errorf("the cases are too plain: %v, %v", counts, errs)
	}
}

// Calls by their names, on maps that were spoilt: each error, at each of its places, step by step.
func TestSpoiltAgainstModel(t *testing.T) {
	takesLong(t)
	errs := map[string]int{}
	mixedPlays(2000, manners{named: true}, func(x mixed) {
		if !canBeFilmed(x) {
			return
		}
		f := wantFilm(t, "P19.1 to P19.4: spoilt", x)
		for k, answers := range f.run.Answers {
			for i, a := range answers {
				errs[fmt.Sprint(x.c.Work[k][i].Kind, " ", int(a.Err))]++
			}
		}
	})
	for _, kind := range []int{kindRangeBy, kindCountBy, kindPageBy, kindDiffBy} {
		for _, err := range []api.Errno{api.OK, noSnap, busy, fails, noRoom, gone} {
			if what := fmt.Sprint(kind, " ", int(err)); errs[what] == 0 {
				t.Errorf("the cases are too plain: %s never comes: %v", what, errs)
			}
		}
	}
}

// canBeFilmed tells whether a run has so few steps that somebody can look behind each of them.
func canBeFilmed(x mixed) bool {
	m := newModel(x.s)
	m.plays = !x.named
	run, _ := m.run(x.c, nil)
	return run.Steps <= api.MaxSteps/2
}

func TestGreatestCase(t *testing.T) {
	m := mixer(3)
	c := api.Case{}
	for range api.MaxWorkers {
		var calls []api.Call
		h := &hopes{stand: new([3]bool)}
		for range api.MaxCalls {
			calls = append(calls, m.likely(m.call(manners{wild: true}, 64), h))
		}
		c.Work = append(c.Work, calls)
	}
	for _, s := range []api.Setup{
		{Parts: mostParts, Workers: 8, Slots: mostSlots, Leases: mostLeases, Source: m.pairs(manners{}, mostSource)},
		{Parts: 1, Workers: 8, Slots: 200, Leases: 4, Source: pairs(1, 1)},
		{Parts: 2, Workers: 4, Slots: 20, Leases: 8, Fails: 3},
		{Parts: 1, Workers: 8, Slots: 4, Leases: 1},
	} {
		if run, left := wantModel(t, "P19.6: the greatest case", mixed{s: s, c: c}); run.Steps < 1500 || left.faults != 0 {
			t.Errorf("P19.6: the greatest case: %d steps", run.Steps)
		}
	}
}

func TestPlayIsTheSameEachTime(t *testing.T) {
	mixedPlays(200, manners{wild: true}, func(x mixed) {
		run, rows, err := scan.Play(x.s, x.c)
		for range 4 {
			again, then, e := scan.Play(x.s, x.c)
			if !sameRun(run, again) || !sameLists(rows, then) || e != err {
				t.Fatalf("rule 6: %+v\nonce %+v %v %v\nthen %+v %v %v", x, run, rows, err, again, then, e)
			}
		}
	})
}

func TestPlayLeavesNothing(t *testing.T) {
	before := runtime.NumGoroutine()
	mixedPlays(200, manners{wild: true}, func(x mixed) { scan.Play(x.s, x.c) })
	wantNoMore(t, "P19.6", before)
}
