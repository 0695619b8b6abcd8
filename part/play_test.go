package part_test

import (
	"fmt"
	"runtime"
	"slices"
	"testing"
	"time"

	"skein/api"
	"skein/part"
)

func TestPlayRefuses(t *testing.T) {
	fine := work([]api.Call{get(0)})
	refuses := func(s api.Setup, c api.Case, want api.Errno) {
		t.Helper()
		run, rows, err := part.Play(s, c)
		if err != want || !sameRun(run, api.Run{}) || len(rows) != 0 {
			t.Errorf("P16.5: Play(%+v, %+v): %+v, %v, %v, want %v", s, c, run, rows, err, want)
		}
	}
	cases := []api.Case{
		{},
		{Work: make([][]api.Call, 9)},
		work(nil, make([]api.Call, 65)),
		{Work: fine.Work, Until: -1},
		{Work: fine.Work, Until: lowest},
		{Work: fine.Work, Until: api.MaxSteps + 1},
		{Work: fine.Work, Until: highest},
	}
	for _, slots := range noSlots {
		for _, leases := range append(noLeases, 1, 64) {
			for _, n := range []int{lowest, 0, 1, 64, 65, highest} {
				refuses(api.Setup{Parts: n, Workers: n, Slots: slots, Leases: leases}, fine, api.ErrPoolMany)
				refuses(api.Setup{Parts: n, Slots: slots, Leases: leases}, cases[0], api.ErrPoolMany)
			}
		}
	}
	for _, leases := range noLeases {
		for _, n := range []int{lowest, 0, 1, 64, 65, highest} {
			for _, c := range append(cases, fine) {
				refuses(api.Setup{Parts: n, Slots: 1, Leases: leases}, c, api.ErrClockMany)
			}
			refuses(api.Setup{Parts: n, Slots: mostSlots, Leases: leases}, fine, api.ErrClockMany)
		}
	}
	for _, n := range noParts {
		for _, c := range append(cases, fine) {
			refuses(api.Setup{Parts: n, Slots: 1, Leases: 1}, c, noPart)
			refuses(api.Setup{Parts: n, Workers: 1, Slots: 9, Leases: 64, Source: pairs(5, 5), Fails: -1}, c, noPart)
		}
	}
	for _, c := range cases {
		refuses(api.Setup{Parts: 1, Slots: 1, Leases: 1}, c, api.ErrCrewCase)
		refuses(api.Setup{Parts: 64, Workers: 8, Slots: 9, Leases: 64}, c, api.ErrCrewCase)
	}
}

// All sizes that may be; a Play without calls tells what there is at first.
func TestIdlePlay(t *testing.T) {
	for _, slots := range []int{1, 2, mostSlots} {
		for _, leases := range []int{1, 64} {
			for _, n := range []int{1, 2, 63, mostParts} {
				s := api.Setup{Parts: n, Slots: slots, Leases: leases, Source: pairs(5, 50), Fails: 1}
				rows := append([][]int{{1, slots, 0}}, make([][]int, n)...)
				wantPlay(t, "P16.5: no calls", mixed{s, work(nil, nil)}, api.Run{Answers: [][]api.Answer{nil, nil}}, rows)
			}
		}
	}
}

// steps: a run of one worker, its answers one behind the other.
func steps(answers ...api.Answer) api.Run {
	at := 0
	for i := range answers {
		answers[i].Begin, answers[i].End = at+1, at+answers[i].Own
		at += answers[i].Own
	}
	return api.Run{Answers: [][]api.Answer{answers}, Steps: at}
}

// What Play tells of a Get, of a write of a key, of a Many.
func got(ok bool, value, number int) api.Answer { return api.Answer{Ok: ok, N: value, M: number} }
func wrote(ok bool, value, number, had int) api.Answer {
	return api.Answer{Ok: ok, N: value, M: number, Ints: []int{had}}
}

// Each Kind: its lines, its answer's fields, where it goes well and where it doesn't; the rows behind it.
func TestPlaysCalls(t *testing.T) {
	s := failing(parts(2, 60, 5, 50, mostKey, 9), 1)
	wantPlay(t, "P16.5", mixed{s, work([]api.Call{
		get(5), get(5), get(6), put(5, 50), put(5, 51), put(6, 0), drop(7), drop(5), swap(6, 0, 0), swap(6, 1, 2), swap(7, 0, 0), swap(6, 0, -1),
		many(), many(6, -1), many(6, 1, 7, 2, 6, 3), many(6, 1, mostKey, 1), get(-1), put(mostKey+1, 1), drop(-1), swap(-1, 1, 1), many(-1, 1), many(mostKey+1, 1, 5, 5),
		put(mostKey, 1), drop(mostKey), get(mostKey),
		advance(), enter(), advance(), advance(), enter(), leave(), leave(), leave(), collect(), {Kind: 10}, {Kind: 0},
	})}, steps(
		own(3, failed(fails)), own(18, got(true, 50, 1)), own(8, got(false, 0, 1)), own(8, wrote(false, 50, 1, 1)), own(18, wrote(true, 50, 2, 1)), own(21, wrote(true, 0, 3, 0)),
		own(9, wrote(false, 0, 3, 0)), own(16, wrote(true, 51, 4, 1)), own(8, wrote(false, 0, 4, 1)), own(8, failed(other)), own(8, failed(notThere)), own(19, wrote(true, 0, 5, 1)),
		own(7, got(false, 0, 5)), own(8, got(false, 0, 5)), own(7+(1+3)+(1+6)+(2+6+8)+7, got(true, 3, 6)), own(1, failed(noKey)),
		own(1, failed(noKey)), own(1, failed(noKey)), own(1, failed(noKey)), own(1, failed(noKey)), own(1, failed(noKey)), own(1, failed(noKey)),
		own(3, failed(fails)), own(10+15, wrote(true, 9, 2, 1)), own(8, got(false, 0, 2)),
		own(5, good()), own(2, good()), own(5, good()), own(2, failed(0)), own(1, good()), own(1, good()), own(1, good()), own(1, failed(isOut)), own(1, good()), own(1, failed(noCall)), own(1, failed(noCall)),
	), [][]int{{3, 60 - 17, 0}, {6, 1, 6, 3, 7, 2}, {2, 1}})
}

func TestExamplesOfPlay(t *testing.T) {
	wantPlay(t, "example 1", mixed{example(60), work([]api.Call{
		get(5), put(7, 70), put(7, 70), drop(5), drop(5), swap(7, 70, 71), swap(7, 70, 72), many(1, 1, 2, 2, 1, 3),
	})}, steps(
		own(18, got(true, 50, 1)), own(21, wrote(true, 0, 2, 0)), own(9, wrote(false, 70, 2, 1)), own(16, wrote(true, 50, 3, 1)), own(8, wrote(false, 0, 3, 0)),
		own(19, wrote(true, 70, 4, 1)), own(8, failed(other)), own(7+7+15+24+7, got(true, 3, 5)),
	), [][]int{{1, 60 - 13, 0}, {5, 1, 1, 3, 2, 2, 7, 71}})
	c := work([]api.Call{get(5), put(1, 1)}, []api.Call{put(2, 2)})
	c.Turns = append(make([]int, 18+13), slices.Repeat([]int{1}, putOwn)...)
	wantPlay(t, "example 2", mixed{example(60), c}, api.Run{Steps: 18 + 13 + putOwn + 4 + 12 + 3 + 11 + 7 + 1, Answers: [][]api.Answer{
		{{Begin: 1, End: 18, Own: 18, Ok: true, N: 50, M: 1}, {Begin: 19, End: 90, Own: 51, Ok: true, M: 3, Ints: []int{0}}},
		{{Begin: 32, End: 52, Own: putOwn, Ok: true, M: 2, Ints: []int{0}}},
	}}, [][]int{{1, 60 - 9, 0}, {3, 1, 1, 1, 2, 2, 5, 50}})
	c = work([]api.Call{get(5), put(1, 1)}, []api.Call{get(5), get(1), get(5)})
	c.Turns, c.Halt = make([]int, 18+3), []int{18 + 3}
	wantPlay(t, "example 3", mixed{example(60), c}, api.Run{Steps: 18 + 3 + 3*getOwn, Open: []api.Open{{Worker: 0, Begin: 19, Own: 3}}, Answers: [][]api.Answer{
		{{Begin: 1, End: 18, Own: 18, Ok: true, N: 50, M: 1}},
		{{Begin: 22, End: 29, Own: getOwn, Ok: true, N: 50, M: 1}, {Begin: 30, End: 37, Own: getOwn, M: 1}, {Begin: 38, End: 45, Own: getOwn, Ok: true, N: 50, M: 1}},
	}}, [][]int{{1, 58, 0}, {1, 1, 5, 50}})
}

func TestKindsThatCantBe(t *testing.T) {
	for _, kind := range noKinds {
		for _, a := range []int{lowest, -1, 0, 5, highest} {
			call := api.Call{Kind: kind, A: a, B: 1, C: 2, Pairs: pairs(5, 2)}
			wantPlay(t, "P16.5: a Kind that can't be", mixed{example(2), work([]api.Call{call, get(5), call})},
				steps(own(1, failed(noCall)), own(18, got(true, 50, 1)), own(1, failed(noCall))), [][]int{{1, 0, 0}, {1, 1, 5, 50}})
		}
	}
}

// A key that is none, and in a Many one of another part: a line, ahead of loading.
func TestKeysThatAreNone(t *testing.T) {
	for _, n := range []int{1, 2, mostParts} {
		for _, key := range noKeys {
			run, rows, err := part.Play(parts(n, 9, 5, 50), work(append(callsOf(key), many(key, 1, 5, 5), many(5, 5, key, 1))))
			want := steps(slices.Repeat([]api.Answer{own(1, failed(noKey))}, 7)...)
			if err != api.OK || !sameRun(run, want) || !sameLists(rows, append([][]int{{1, 9, 0}}, make([][]int, n)...)) {
				t.Errorf("P16.5: the key %d of %d parts: %+v, %v, %v", key, n, run, rows, err)
			}
		}
	}
	// A Many goes to its first pair's part.
	lo, hi := 0, mostKey
	wantPlay(t, "P16.5: Manys", mixed{parts(2, 20), work([]api.Call{many(hi, 1, lo, 2), many(lo, 1, hi, 2), many(hi, 1, hi-1, 2), many()})},
		steps(own(1, failed(noKey)), own(1, failed(noKey)), own(8+6+3+(1+6)+7, got(true, 2, 2)), own(8+6, got(false, 0, 1))), [][]int{{1, 20 - 6, 0}, {1, 1}, {2, 1, hi - 1, 2, hi, 1}})
}

// The parts of keys, by what their rows tell.
func TestPartsOfKeys(t *testing.T) {
	for _, n := range []int{1, 2, 3, 5, 31, mostParts} {
		for i := range n {
			for _, key := range []int{least(i, n), least(i+1, n) - 1} {
				_, rows, err := part.Play(parts(n, 9), work([]api.Call{put(key, i)}))
				if err != api.OK || !slices.Equal(rows[1+i], []int{2, 1, key, i}) {
					t.Errorf("P16.5: the key %d of %d parts: %v, %v", key, n, rows, err)
				}
			}
		}
	}
}

// What a call has no use for isn't looked at.
func TestFieldsWithoutUse(t *testing.T) {
	calls := []api.Call{get(5), put(7, 70), drop(5), swap(7, 70, 71), many(1, 1, 5, 5), advance(), enter(), leave(), collect(), many(), {Kind: 12}}
	want, left := wantModel(t, "P16.5: fields", mixed{example(40), work(calls)})
	for _, n := range []int{lowest, -1, 0, 1, 5, 8, 9, highest} {
		var list []api.Call
		for _, c := range calls {
			switch c.Kind {
			case 1, 3:
				c.B, c.C, c.Pairs = n, -n, pairs(n, n)
			case 2:
				c.C, c.Pairs = n, pairs(n, n)
			case 4:
				c.Pairs = pairs(n, n)
			case 5:
				c.A, c.B, c.C = n, -n, n
			default:
				c.A, c.B, c.C, c.Pairs = n, -n, n, pairs(n, n)
			}
			list = append(list, c)
		}
		for _, leases := range []int{1, 2, 64} {
			s := example(40)
			s.Leases = leases
			wantPlay(t, "P16.5: fields", mixed{s, work(list)}, want, left.rows())
		}
	}
}

// Of an answer a call tells its own fields alone; beside an error none.
func TestFieldsOfAnswers(t *testing.T) {
	mixedPlays(500, manners{wild: true}, func(x mixed) {
		run, _, err := part.Play(x.s, x.c)
		if err != api.OK {
			t.Fatalf("P16.5: %+v: %v", x, err)
		}
		for k, answers := range run.Answers {
			for i, a := range answers {
				kind := x.c.Work[k][i].Kind
				isWrite := kind >= 2 && kind <= 4
				switch {
				case a.Err != api.OK && (a.Ok || a.N != 0 || a.M != 0 || len(a.Ints) != 0), len(a.Pairs) != 0:
					t.Fatalf("rule 4: %+v: %+v", x.c.Work[k][i], a)
				case a.Err == api.OK && isWrite != (len(a.Ints) == 1):
					t.Fatalf("P16.5: %+v: %+v", x.c.Work[k][i], a)
				case isWrite && a.Err == api.OK && a.Ints[0] != 0 && a.Ints[0] != 1:
					t.Fatalf("P16.5: %+v: %+v", x.c.Work[k][i], a)
				case kind > 5 && a.M != 0, kind > 5 && kind != 7 && a.N != 0, kind > 6 && a.Ok != (a.Err == api.OK):
					t.Fatalf("P16.5: %+v: %+v", x.c.Work[k][i], a)
				}
			}
		}
	})
}

// Workers that the epoch doesn't know: of a setup for fewer than there are, the nearest number that may be.
func TestWorkersOfTheEpoch(t *testing.T) {
	for workers, known := range map[int]int{lowest: 1, -1: 1, 0: 1, 1: 1, 2: 2, 3: 3, 8: 8, 9: 8, highest: 8} {
		x := mixed{crewOf(example(60), workers), work()}
		for range 8 {
			x.c.Work = append(x.c.Work, []api.Call{get(5), put(5, 50), advance(), enter(), leave(), collect(), get(-1)})
		}
		x.c.Turns = make([]int, 70)
		run, _ := wantModel(t, "P16.5: workers", x)
		for k, a := range run.Answers {
			for i, want := range []api.Errno{noWorker, noWorker, api.OK, noWorker, noWorker, noWorker, noKey} {
				if k < known && i < 6 {
					want = api.OK
				}
				if a[i].Err != want || k >= known && (a[i].Ok || a[i].Own > 2) {
					t.Errorf("P16.5: %d workers: worker %d, call %d: %+v", workers, k, i, a[i])
				}
			}
		}
	}
}

// The rows: the epoch's now, what is free; of a part its newest version, also one that isn't settled, or of which the loading isn't over.
func TestRows(t *testing.T) {
	play := func(s api.Setup, c api.Case) [][]int {
		t.Helper()
		_, left := wantModel(t, "P16.5: rows", mixed{s, c})
		_, rows, _ := part.Play(s, c)
		if !sameLists(rows, left.rows()) {
			t.Fatalf("P16.5: %v, want %v", rows, left.rows())
		}
		return rows
	}
	for at := 1; at <= loadOwn; at++ {
		c := work([]api.Call{get(5)})
		c.Halt = []int{at}
		rows := play(example(9), c)
		if laid := at >= loadOwn-1; !slices.Equal(rows[1], map[bool][]int{true: {1, 1, 5, 50}}[laid]) {
			t.Errorf("P16.5: halted behind %d lines of a loading: %v", at, rows)
		}
	}
	for at := 1; at <= putOwn; at++ {
		c := work([]api.Call{get(5), put(7, 70)})
		c.Halt = []int{18 + at}
		want := []int{1, 1, 5, 50}
		switch {
		case at >= 20:
			want = []int{2, 1, 5, 50, 7, 70}
		case at >= 17:
			want = []int{2, 0, 5, 50, 7, 70}
		}
		if rows := play(example(9), c); !slices.Equal(rows[1], want) {
			t.Errorf("P16.5: halted behind %d lines of a Put: %v", at, rows)
		}
	}
	rows := play(parts(3, 50, 0, lowest, mostKey, highest, 7, -1), work([]api.Call{advance(), get(mostKey), drop(mostKey), advance(), put(0, highest), put(1, 0)}))
	if !sameLists(rows, [][]int{{3, 50 - 14, 0}, {3, 1, 0, highest, 1, 0, 7, -1}, nil, {2, 1}}) {
		t.Errorf("P16.5: %v", rows)
	}
}

// stop: a call behind others, all of worker 0, and what its lines change.
type stop struct {
	name  string
	s     api.Setup
	ahead []api.Call
	call  api.Call
	lines []change
}

func stops() []stop {
	at := []api.Call{get(5)}
	return []stop{
		{"Get", example(60), at, get(5), inside(still(1))},
		{"Get that loads", example(60), nil, get(5), lines(loads(), comes(), still(4), goes)},
		{"Get whose loading fails", failing(example(60), 1), nil, get(5), lines(still(1), becomes(0, 1), becomes(0, 0))},
		{"Get of no key", example(60), at, get(-1), still(1)},
		{"Put", example(60), at, put(7, 70), inside(still(1), takes(3, leaf(7, 70)), takes(4, inner(4, 1, one, three, 2)), follows(0, 5, four, 2))},
		{"Put that changes nothing", example(60), at, put(5, 50), inside(still(1))},
		{"Put without room", example(4), at, put(7, 70), inside(still(1), takes(3, leaf(7, 70)), takes(4, inner(4, 1, one, three, 2)), still(1), back(4, 3))},
		{"Drop", example(60), at, drop(5), inside(still(1), follows(0, 3, 0, 2, one))},
		{"Drop that changes nothing", example(60), at, drop(6), inside(still(1))},
		{"Drop without room", example(2), at, drop(5), inside(still(2))},
		{"Swap", example(60), at, swap(5, 50, 51), inside(still(2), takes(3, leaf(5, 51)), follows(0, 4, three, 2, one))},
		{"Swap of another value", example(60), at, swap(5, 49, 51), inside(still(1))},
		{"Swap of what isn't there", example(60), at, swap(6, 49, 51), inside(still(1))},
		{"Many", example(60), at, many(5, 51, 5, 52), inside(still(1), takes(3, leaf(5, 51)), still(1), takes(4, leaf(5, 52)), back(3), follows(0, 3, four, 2, one))},
		{"Many of no pairs", example(60), at, many(), inside()},
		{"Many without room", example(3), at, many(5, 51, 7, 1), inside(still(1), takes(3, leaf(5, 51)), still(2), back(3))},
		{"Advance", example(60), at, advance(), lines(still(4), func(s *state) { s.epoch++ })},
		{"Collect", example(60), at, collect(), still(1)},
		{"Enter", example(60), at, enter(), comes()},
		{"Leave", example(60), []api.Call{enter()}, leave(), lines(goes)},
		{"no call", example(60), nil, api.Call{Kind: 10}, still(1)},
	}
}

// A call that is stopped for good has done its lines and no more.
func TestHaltsAndCutsAtEveryLine(t *testing.T) {
	for _, x := range stops() {
		m := newModel(x.s)
		run, _ := m.run(work(x.ahead), false)
		ahead, is := run.Steps, m.told()
		for at := 1; at <= len(x.lines); at++ {
			is = is.clone()
			x.lines[at-1](&is)
			for _, cut := range []bool{false, true} {
				c := work(append(slices.Clone(x.ahead), x.call, get(5)))
				c.Halt = []int{ahead + at}
				if cut {
					c.Halt, c.Until = nil, ahead+at
				}
				run, left := wantModel(t, "P16.5: "+x.name, mixed{x.s, c})
				open, ended := []api.Open{{Worker: 0, Begin: ahead + 1, Own: at}}, len(x.ahead)
				if at == len(x.lines) {
					open, ended = nil, ended+1
				}
				if run.Cut != cut || run.Steps != ahead+at || !slices.Equal(run.Open, open) || len(run.Answers[0]) != ended || !left.same(is) {
					t.Errorf("P16.5: %s, stopped behind %d lines, cut %v: %+v, %+v, want %+v", x.name, at, cut, run, left, is)
				}
				f := wantFilm(t, "P16.5: "+x.name, mixed{x.s, c})
				if last := f.moments[len(f.moments)-1]; !last.same(is) {
					t.Errorf("P16.5: %s, stopped behind %d lines, cut %v: %+v, want %+v", x.name, at, cut, last, is)
				}
			}
		}
	}
}

// Behind a worker that was halted in the midst all others go on, but that writes wait for a part whose loading is halted.
func TestOthersGoOnBehindAHalt(t *testing.T) {
	for at := 1; at < loadOwn; at++ {
		s := parts(2, 40, 5, 50, mostKey, 9)
		c := work([]api.Call{put(5, 51)}, []api.Call{get(5), put(mostKey, 8), get(mostKey), get(5), advance(), put(5, 1)})
		c.Turns, c.Halt, c.Until = make([]int, at), []int{at}, 300
		run, _ := wantModel(t, "P16.2: behind a halt", mixed{s, c})
		a := run.Answers[1]
		if at == 1 { // it came to nothing
			if len(a) != 6 || run.Cut || !sameAnswer(a[0], got(true, 50, 1)) || !sameAnswer(a[5], wrote(true, 50, 2, 1)) {
				t.Errorf("P16.2: halted behind %d lines: %+v", at, run)
			}
			continue
		}
		if len(a) != 5 || !run.Cut || a[0].Err != busy || !sameAnswer(a[1], wrote(true, 9, 2, 1)) || !sameAnswer(a[2], got(true, 8, 2)) || a[3].Err != busy || !a[4].Ok {
			t.Errorf("P16.2, P16.3: halted behind %d lines: %+v", at, run)
		}
	}
	// Who is halted within holds the epoch back, and nothing else.
	for at := 3; at < putOwn; at++ {
		c := work([]api.Call{get(5), put(5, 51)}, []api.Call{advance(), advance(), get(5), put(6, 1), get(6), advance()})
		c.Turns, c.Halt = make([]int, 18+at), []int{18 + at}
		run, _ := wantModel(t, "P16.7: behind a halt", mixed{example(60), c})
		a := run.Answers[1]
		if isIn := at < 18; len(a) != 6 || run.Cut || !a[0].Ok || a[1].Ok == isIn || a[5].Ok == isIn || a[2].Err != api.OK || !a[3].Ok || !a[4].Ok {
			t.Errorf("P16.7: halted behind %d lines: %+v", at, run)
		}
	}
}

// A write that waits for good is cut at the last step that there is.
func TestWriteThatIsCut(t *testing.T) {
	c := work([]api.Call{get(5)}, []api.Call{put(5, 1), get(5)}, []api.Call{many(5, 1)})
	c.Turns, c.Halt = make([]int, 5), []int{5}
	run, _ := wantModel(t, "P16.3: MaxSteps", mixed{example(9), c})
	if !run.Cut || run.Steps != api.MaxSteps || len(run.Open) != 3 || len(run.Answers[1])+len(run.Answers[2]) != 0 {
		t.Errorf("P16.3: MaxSteps: %+v", run)
	}
}

// Every order of two calls, as far as the first turns go, against the model.
func TestEveryOrder(t *testing.T) {
	takesLong(t)
	for _, x := range []mixed{
		{parts(1, 12), work([]api.Call{put(1, 1)}, []api.Call{put(2, 2)})},
		{parts(1, 5), work([]api.Call{put(1, 1), get(2)}, []api.Call{many(2, 2, 2, 3)})},
		{parts(1, 12, 1, 1), work([]api.Call{drop(1)}, []api.Call{swap(1, 1, 2), get(1)})},
		{failing(parts(1, 12), 1), work([]api.Call{get(1), put(1, 1)}, []api.Call{put(1, 2), put(1, 3)})},
		{parts(2, 12), work([]api.Call{put(1, 1)}, []api.Call{put(mostKey, 2), advance()})},
	} {
		orders(2, 11, func(turns []int) {
			x.c.Turns = turns
			if run, left := wantModel(t, "every order", x); run.Cut || left.faults != 0 || len(run.Open) != 0 {
				t.Fatalf("every order: %+v: %+v", x, run)
			}
		})
	}
}

func TestAgainstModel(t *testing.T) {
	counts := map[string]int{}
	errs := map[api.Errno]int{}
	for _, how := range []manners{{}, {wild: true}} {
		mixedPlays(1500, how, func(x mixed) {
			run, left := wantModel(t, "P16.5", x)
			for k, answers := range run.Answers {
				for i, a := range answers {
					errs[a.Err]++
					if a.Err == api.OK {
						counts[fmt.Sprintf("kind %d, %v", x.c.Work[k][i].Kind, a.Ok)]++
					}
				}
			}
			counts["open"] += len(run.Open)
			counts["cut"] += bit(run.Cut)
			for _, list := range left.versions {
				counts["many versions"] += bit(len(list) > 4)
			}
			if left.faults != 0 {
				t.Fatalf("P16.9: %+v: %d faults", x, left.faults)
			}
		})
	}
	for _, err := range []api.Errno{api.OK, noCall, noKey, other, notThere, busy, fails, noRoom, noWorker, isOut} {
		if errs[err] < 50 {
			t.Errorf("the cases are too plain: %v comes %d times", err, errs[err])
		}
	}
	for _, what := range []string{
		"kind 1, true", "kind 1, false", "kind 2, true", "kind 2, false", "kind 3, true", "kind 3, false", "kind 4, true", "kind 4, false", "kind 5, true", "kind 5, false",
		"kind 6, true", "kind 6, false", "kind 7, true", "kind 8, true", "kind 9, true", "open", "cut", "many versions",
	} {
		if counts[what] < 20 {
			t.Errorf("the cases are too plain: %d %s", counts[what], what)
		}
	}
}

func TestGreatestCase(t *testing.T) {
	m := mixer(3)
	c := api.Case{Turns: []int{5, 3, 3, -1}}
	s := api.Setup{Parts: mostParts, Workers: 8, Slots: mostSlots, Leases: 64, Fails: 1}
	for range api.MaxWorkers {
		var calls []api.Call
		for range api.MaxCalls {
			calls = append(calls, m.call(s, manners{wild: true}))
		}
		c.Work = append(c.Work, calls)
	}
	for i := range api.MaxSource {
		s.Source = append(s.Source, api.Pair{Key: i * 16777213, Value: i})
	}
	if run, left := wantModel(t, "P16.5: the greatest case", mixed{s, c}); run.Steps != api.MaxSteps || !run.Cut || left.faults != 0 {
		t.Errorf("P16.5: the greatest case: %d steps", run.Steps)
	}
	s.Slots = 60
	wantModel(t, "P16.5: the greatest case in a small pool", mixed{s, c})
	// Many pairs at once.
	s = parts(1, mostSlots)
	var list []int
	for i := range 150 {
		list = append(list, i*i*1000, i)
	}
	run, _ := wantModel(t, "P16.5: many pairs", mixed{s, work([]api.Call{many(list...), many(list...)})})
	if a := run.Answers[0]; run.Cut || a[0].N != 150 || !a[0].Ok || a[1].Ok {
		t.Errorf("P16.5: many pairs: %+v", a)
	}
}

func TestPlayIsTheSameEachTime(t *testing.T) {
	mixedPlays(150, manners{wild: true}, func(x mixed) {
		run, rows, err := part.Play(x.s, x.c)
		for range 4 {
			again, then, e := part.Play(x.s, x.c)
			if !sameRun(run, again) || !sameLists(rows, then) || e != err {
				t.Fatalf("P16.5: %+v\nonce %+v %v %v\nthen %+v %v %v", x, run, rows, err, again, then, e)
			}
		}
	})
}

// roomy copies a list into one with spare room, in which something stands.
func roomy(list []int) []int {
	room := append(slices.Clone(list), 71, 72, 73)
	return room[:len(list)]
}

// untouched tells whether a roomy list is as it was.
func untouched(list, was []int) bool {
	return slices.Equal(list, was) && slices.Equal(list[:len(list)+3][len(list):], []int{71, 72, 73})
}

// writeOver writes into a list and all the spare room behind it.
func writeOver(list []int) {
	list = list[:cap(list)]
	for i := range list {
		list[i] = -99
	}
}

func plainRows(rows [][]int) [][]int {
	var list [][]int
	for _, row := range rows {
		list = append(list, slices.Clone(row))
	}
	return list
}

func TestPlayKeepsToItsOwnMemory(t *testing.T) {
	told := 0
	mixedPlays(500, manners{wild: true}, func(x mixed) {
		s, c := x.s, plainCase(x.c)
		c.Turns, c.Halt = roomy(c.Turns), roomy(c.Halt)
		s.Source = append(slices.Clone(x.s.Source), pairs(71, 72)...)[:len(x.s.Source)]
		run, rows, _ := part.Play(s, c)
		if !untouched(c.Turns, x.c.Turns) || !untouched(c.Halt, x.c.Halt) || !slices.Equal(s.Source[:len(s.Source)+1], append(slices.Clone(x.s.Source), pairs(71, 72)...)) {
			t.Fatalf("rule 3: Play changed what was handed in: %+v, %+v", s, c)
		}
		for k := range c.Work {
			for i := range c.Work[k] {
				if !slices.Equal(c.Work[k][i].Pairs, x.c.Work[k][i].Pairs) {
					t.Fatalf("rule 3: Play changed what was handed in: %+v", c.Work[k][i])
				}
				for j := range c.Work[k][i].Pairs {
					c.Work[k][i].Pairs[j] = api.Pair{Key: -99, Value: -99}
				}
				c.Work[k][i] = api.Call{Kind: -99}
			}
		}
		keptRun, kept := plainRun(run), plainRows(rows)
		for i := range s.Source {
			s.Source[i] = api.Pair{Key: -99, Value: -99}
		}
		writeOver(c.Turns)
		writeOver(c.Halt)
		if !sameRun(run, keptRun) || !sameLists(rows, kept) {
			t.Fatalf("rule 3: an answer hangs on what was handed in: %+v", x)
		}
		for i := range rows {
			writeOver(rows[i])
			rows[i], kept[i] = nil, nil
			if !sameLists(rows, kept) || !sameRun(run, keptRun) {
				t.Fatalf("rule 3: two rows share memory: %+v", x)
			}
		}
		for k := range run.Answers {
			for i := range run.Answers[k] {
				told += len(run.Answers[k][i].Ints)
				writeOver(run.Answers[k][i].Ints)
				run.Answers[k][i].Ints, keptRun.Answers[k][i].Ints = nil, nil
				if !sameRun(run, keptRun) {
					t.Fatalf("rule 3: two answers share memory: %+v", x)
				}
			}
		}
		wantModel(t, "rule 3: behind answers that were written over", x)
	})
	if told < 100 {
		t.Errorf("the cases are too plain: %d", told)
	}
}

func TestPlayLeavesNothing(t *testing.T) {
	before := runtime.NumGoroutine()
	mixedPlays(200, manners{wild: true}, func(x mixed) { part.Play(x.s, x.c) })
	for range 500 {
		if runtime.NumGoroutine() <= before {
			return
		}
		time.Sleep(time.Millisecond)
	}
	t.Errorf("P16.5: %d goroutines, %d ahead of it", runtime.NumGoroutine(), before)
}
