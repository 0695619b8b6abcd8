package audit_test

import (
	"reflect"
	"slices"
	"testing"

	"skein/api"
	"skein/audit"
	"skein/store"
)

// refused asks for an error of Play, and for nothing beside it.
func refused(t *testing.T, s api.Setup, c api.Case, want api.Errno) {
	t.Helper()
	run, a, err := audit.Play(s, c)
	if err != want || !reflect.DeepEqual(run, api.Run{}) || !reflect.DeepEqual(a, api.Audit{}) {
		t.Errorf("P23.4: Play(%+v, %+v): %+v, %+v, %v, want %v", s, c, run, a, err, want)
	}
}

// P23.4: setups that can't be; ahead of cases that can't be.
func TestPlayRefusesSetups(t *testing.T) {
	good, bad := work([]api.Call{get(1)}), api.Case{}
	for _, change := range []func(s *api.Setup, n int){
		func(s *api.Setup, n int) { s.Parts = n },
		func(s *api.Setup, n int) { s.Workers = n },
		func(s *api.Setup, n int) { s.Slots = n },
		func(s *api.Setup, n int) { s.Leases = n },
	} {
		for _, n := range []int{lowest, -1, 0, 4097, 1 << 32, 1<<32 + 1, highest} {
			s := plain
			change(&s, n)
			refused(t, s, good, 181)
			refused(t, s, bad, 181)
		}
	}
	for _, s := range []api.Setup{
		{},
		{Parts: 65, Workers: 1, Slots: 1, Leases: 1},
		{Parts: 1, Workers: 9, Slots: 1, Leases: 1},
		{Parts: 1, Workers: 1, Slots: 1, Leases: 65},
		{Parts: 1, Workers: 1, Slots: 1, Leases: 1, Source: pairs(-1, 0)},
		{Parts: 1, Workers: 1, Slots: 1, Leases: 1, Source: pairs(1, 0, 1<<32, 0)},
		{Parts: 1, Workers: 1, Slots: 1, Leases: 1, Source: make([]api.Pair, 257)},
	} {
		refused(t, s, good, 181)
		refused(t, s, bad, 181)
	}
}

// P23.4: cases that can't be.
func TestPlayRefusesCases(t *testing.T) {
	for _, c := range []api.Case{
		{},
		{Work: [][]api.Call{}},
		{Work: make([][]api.Call, 9)},
		{Work: [][]api.Call{make([]api.Call, 65)}},
		{Work: [][]api.Call{nil, make([]api.Call, 65)}},
		{Work: [][]api.Call{{get(1)}}, Until: -1},
		{Work: [][]api.Call{{get(1)}}, Until: 20001},
		{Work: [][]api.Call{{get(1)}}, Until: lowest},
		{Work: [][]api.Call{{get(1)}}, Until: highest},
	} {
		refused(t, plain, c, 30)
	}
}

// P23.4: at the limits, and where nothing is done.
func TestPlayAtTheLimits(t *testing.T) {
	greatest := api.Setup{Parts: 64, Workers: 8, Slots: 4096, Leases: 64, Source: make([]api.Pair, 256)}
	for i := range greatest.Source {
		greatest.Source[i] = api.Pair{Key: i << 24, Value: i}
	}
	var l []api.Call
	for i := range 64 {
		l = append(l, put(i<<26, i))
	}
	for _, x := range []mixed{
		{greatest, work(l, l, l, l, l, l, l, l)},
		{api.Setup{Parts: 1, Workers: 1, Slots: 1, Leases: 1}, work([]api.Call{get(1), put(1, 1)})},
		{plain, work(nil)},
		{plain, work(nil, []api.Call{}, nil)},
		{plain, api.Case{Work: [][]api.Call{{get(1)}}, Until: 20000}},
		{plain, api.Case{Work: [][]api.Call{{get(1)}}, Halt: []int{lowest, highest, 0}, Turns: []int{lowest, highest}}},
	} {
		wantPlay(t, x)
	}
	_, a, _ := audit.Play(plain, work(nil))
	if want := (api.Audit{Uses: slices.Repeat([]api.Use{isFree}, 40), Trims: []int{0, 0}, Least: 0, Rest: true}); !reflect.DeepEqual(a, want) {
		t.Errorf("P23.4: %+v, want %+v", a, want)
	}
}

// wantPlay asks for the run of store's Play, and for what is there behind it.
func wantPlay(t *testing.T, x mixed) (api.Run, api.Audit) {
	t.Helper()
	want, rows, err := store.Play(x.s, x.c)
	if err != api.OK {
		t.Fatalf("%+v: %v", x, err)
	}
	run, a, err := audit.Play(x.s, x.c)
	if err != api.OK || !reflect.DeepEqual(run, want) {
		t.Fatalf("P23.4: %+v: %+v, %v, want %+v", x, run, err, want)
	}
	m, _ := ran(t, x.s, x.c)
	p := lawful(t, m, len(run.Open))
	var trims []int
	for part := range x.s.Parts {
		trims = append(trims, p.trims(m, part))
	}
	if want := (api.Audit{Uses: p.uses(), Trims: trims, Least: p.least(), Rest: p.rest()}); !reflect.DeepEqual(a, want) {
		t.Fatalf("P23.4: %+v: %+v, want %+v", x, a, want)
	}
	if n := audit.Sums(a.Uses); n.Free != rows[0][1] && len(run.Open) == 0 {
		t.Fatalf("P23.4: %+v: %+v, want %v", x, n, rows)
	}
	return run, a
}

// P23.4: every kind of call, and kinds that there aren't: those of store's Play, not of scan's.
func TestPlayKnowsStoresCalls(t *testing.T) {
	calls := []api.Call{
		get(1), put(1, 2), drop(far), swap(1, 2, 3), many(1, 5, 2, 6), snap(0), snap(1), peek(0, 1), free(0), name(7, 1), peekNamed(7, 1), put(1, 9), trim(0), unname(7), trim(0),
		advance(), advance(), collect(), names(),
	}
	run, a := wantPlay(t, mixed{plain, work(calls)})
	for i, x := range run.Answers[0] {
		if x.Err != api.OK {
			t.Errorf("P23.4: %+v: %+v", calls[i], x)
		}
	}
	if a.Rest || a.Trims[0] != 0 || a.Trims[1] == 0 || a.Least != 4+1 {
		t.Errorf("P23.4: %+v", a)
	}
	run, a = wantPlay(t, mixed{plain, work(append(calls, trim(1), advance(), advance(), collect()))})
	if !a.Rest || a.Trims[1] != 0 || a.Least != 4+1 {
		t.Errorf("P23.4: %+v, %+v", run, a)
	}
	for _, kind := range []int{lowest, -1, 0, 16, 17, 18, 19, 20, 101, highest} {
		run, a := wantPlay(t, mixed{plain, work([]api.Call{{Kind: kind, C: 9}, get(1)})})
		if x := run.Answers[0][0]; x.Err != 180 || x.Own != 1 || a.Least != 2 {
			t.Errorf("P23.4: Kind %d: %+v, %+v", kind, x, a)
		}
	}
}

// P23.4: mixed runs: that end, that are cut, that are halted, in the midst of calls of every kind.
func TestMixedPlays(t *testing.T) {
	takesLong(t)
	var mix mixer = 234
	counts := map[string]int{}
	kinds := map[int]int{} // of calls that were open
	for i := range 2500 {
		x := mix.busyCase()
		x.c.Turns = mix.turns(200)
		if i%4 == 1 {
			mix.wild(x.c)
		}
		if i%4 >= 2 {
			x.c.Halt = mix.halts(len(x.c.Work), 120)
		}
		if i%3 == 1 {
			x.c.Until = 1 + mix.below(250)
		}
		run, a := wantPlay(t, x)
		if run.Cut {
			counts["cut"]++
		}
		if a.Rest {
			counts["rest"]++
		}
		counts["open"] += len(run.Open)
		counts["other"] += audit.Sums(a.Uses).Other
		for _, o := range run.Open {
			kinds[x.c.Work[o.Worker][len(run.Answers[o.Worker])].Kind]++
		}
	}
	if counts["cut"] < 300 || counts["rest"] < 30 || counts["open"] < 1000 || counts["other"] < 1000 {
		t.Errorf("the cases are too plain: %v", counts)
	}
	for kind := 1; kind <= 14; kind++ {
		if kind != 7 && kinds[kind] == 0 { // a Free has one line, as Names has: it is never open
			t.Errorf("the cases are too plain: %v", kinds)
		}
	}
}
