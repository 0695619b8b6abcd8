package store_test

import (
	"fmt"
	"runtime"
	"slices"
	"testing"
	"time"

	"skein/api"
	"skein/crew"
	"skein/store"
)

// New's error comes ahead of the case's.
func TestPlayRefuses(t *testing.T) {
	fine := work([]api.Call{get(1)})
	refuses := func(s api.Setup, c api.Case, want api.Errno) {
		t.Helper()
		run, rows, err := store.Play(s, c)
		if err != want || !sameRun(run, api.Run{}) || len(rows) != 0 {
			t.Errorf("P18.8: Play(%+v, %+v): %+v, %v, %v, want %v", s, c, run, rows, err, want)
		}
	}
	for _, c := range []api.Case{
		{},
		{Work: make([][]api.Call, 9)},
		work(nil, make([]api.Call, 65)),
		{Work: fine.Work, Until: -1},
		{Work: fine.Work, Until: lowest},
		{Work: fine.Work, Until: api.MaxSteps + 1},
		{Work: fine.Work, Until: highest},
	} {
		refuses(plain, c, api.ErrCrewCase)
		for _, f := range []func(s *api.Setup){
			func(s *api.Setup) { s.Parts = 0 }, func(s *api.Setup) { s.Workers = 9 }, func(s *api.Setup) { s.Slots = 0 }, func(s *api.Setup) { s.Leases = 65 },
			func(s *api.Setup) { s.Source = pairs(-1, 1) }, func(s *api.Setup) { s.Source = slices.Repeat(pairs(1, 1), 257) },
		} {
			s := plain
			f(&s)
			refuses(s, c, noSetup)
			refuses(s, fine, noSetup)
		}
	}
}

// All sizes that may be; a Play without calls tells what there is at first.
func TestIdlePlay(t *testing.T) {
	for _, parts := range []int{1, 2, mostParts} {
		for _, slots := range []int{1, mostSlots} {
			for _, leases := range []int{1, mostLeases} {
				for _, workers := range []int{1, 8} {
					s := api.Setup{Parts: parts, Workers: workers, Slots: slots, Leases: leases, Source: pairs(1, 2), Fails: 1}
					rows := append([][]int{{1, slots, 0}, make([]int, leases), nil}, slices.Repeat([][]int{{0}}, parts)...)
					wantPlay(t, "P18.8: no calls", s, work(nil, nil), api.Run{Answers: [][]api.Answer{nil, nil}}, rows)
				}
			}
		}
	}
}

// The document's example as a Play: each call's lines and its answer's fields, and the rows behind it.
func TestExampleOfPlay(t *testing.T) {
	s := api.Setup{Parts: 2, Workers: 1, Slots: 40, Leases: 2, Source: pairs(1, 10, far, 20)}
	calls := []api.Call{
		get(1), snap(0), put(1, 11), peek(0, 1), peek(0, far), get(1), name(7, 0), free(0), peekNamed(7, 1), names(), unname(7), peekNamed(7, 1), trim(0), advance(), advance(), collect(),
	}
	answers := []api.Answer{
		own(18, read(10, 1)), own(5, held(0, 1)), own(18, wrote(10, 2, 1)), own(8, read(10, 1)), own(16, read(20, 1)), own(8, read(11, 2)), own(2, good()), own(1, failed(noSnap)),
		own(12, read(10, 1)), own(1, listed(7, 1)), own(3, good()), own(4, failed(unknown)), own(2+3+2+1+2+1+1, number(2)), own(3, good()), own(3, good()), own(9, number(2)),
	}
	rows := [][][]int{
		{{1, 38, 0}, {0, 0}, {}, {2, 1, 1, 1, 10}, {0}},
		{{1, 38, 0}, {2, 0}, {}, {2, 1, 1, 1, 10}, {0}},
		{{1, 36, 0}, {2, 0}, {}, {2, 2, 2, 1, 11}, {0}},
		{{1, 36, 0}, {2, 0}, {}, {2, 2, 2, 1, 11}, {0}},
		{{1, 34, 0}, {2, 0}, {}, {2, 2, 2, 1, 11}, {2, 1, 1, far, 20}},
		{{1, 34, 0}, {2, 0}, {}, {2, 2, 2, 1, 11}, {2, 1, 1, far, 20}},
		{{1, 34, 0}, {2, 0}, {7, 1}, {2, 2, 2, 1, 11}, {2, 1, 1, far, 20}},
		{{1, 34, 0}, {2, 0}, {7, 1}, {2, 2, 2, 1, 11}, {2, 1, 1, far, 20}},
		{{1, 34, 0}, {2, 0}, {7, 1}, {2, 2, 2, 1, 11}, {2, 1, 1, far, 20}},
		{{1, 34, 0}, {2, 0}, {7, 1}, {2, 2, 2, 1, 11}, {2, 1, 1, far, 20}},
		{{1, 34, 0}, {0, 0}, {}, {2, 2, 2, 1, 11}, {2, 1, 1, far, 20}},
		{{1, 34, 0}, {0, 0}, {}, {2, 2, 2, 1, 11}, {2, 1, 1, far, 20}},
		{{1, 34, 0}, {0, 0}, {}, {2, 2, 2, 1, 11}, {2, 1, 1, far, 20}},
		{{2, 34, 0}, {0, 0}, {}, {2, 2, 2, 1, 11}, {2, 1, 1, far, 20}},
		{{3, 34, 0}, {0, 0}, {}, {2, 2, 2, 1, 11}, {2, 1, 1, far, 20}},
		{{3, 36, 0}, {0, 0}, {}, {2, 2, 2, 1, 11}, {2, 1, 1, far, 20}},
	}
	for i := range calls {
		wantPlay(t, "example", s, work(calls[:i+1]), steps(slices.Clone(answers[:i+1])...), rows[i])
	}
}

// Each Kind, where it goes well and where it doesn't: its lines, its answer's fields.
func TestPlaysCalls(t *testing.T) {
	s := api.Setup{Parts: 1, Workers: 2, Slots: 60, Leases: 2, Source: pairs(1, 10)}
	wantPlay(t, "P18.8", s, work([]api.Call{
		get(1), get(2), get(-1), put(2, 20), put(2, 20), put(-1, 1), drop(2), drop(2), drop(-1), swap(1, 10, 11), swap(1, 11, 11), swap(1, 10, 12), swap(2, 1, 1), swap(-1, 1, 1),
		many(1, 1, 2, 2), many(1, 1), many(-1, 1), many(), snap(1), snap(1), snap(2), snap(3), peek(1, 1), peek(1, 3), peek(1, -1), peek(0, 1), peek(4, 1),
		name(5, 1), name(5, 2), name(-1, 2), name(6, 1), name(6, -1), names(), peekNamed(5, 2), peekNamed(5, 3), peekNamed(6, 2), peekNamed(5, -1), unname(6), unname(-1), unname(5), names(),
		free(2), free(2), free(4), trim(0), trim(1), advance(), advance(), collect(), {Kind: 16}, {Kind: 0},
	}), steps(
		own(18, read(10, 1)), own(8, lacks(1)), own(1, failed(noKey)),
		own(21, wrote(0, 2, 0)), own(9, same(20, 2, 1)), own(1, failed(noKey)),
		own(16, wrote(20, 3, 1)), own(8, same(0, 3, 0)), own(1, failed(noKey)),
		own(19, wrote(10, 4, 1)), own(8, same(11, 4, 1)), own(8, failed(other)), own(8, failed(notThere)), own(1, failed(noKey)),
		own(7+4+7+7, laid(2, 5)), own(9, api.Answer{M: 5}), own(1, failed(noKey)), own(7, api.Answer{M: 5}),
		own(5, held(0, 1)), own(1, failed(noCall)), own(6, held(1, 2)), own(2, failed(noLeases)),
		own(7, read(1, 5)), own(7, lacks(5)), own(1, failed(noKey)), own(1, failed(noSnap)), own(1, failed(noCall)),
		own(2, good()), own(1, failed(isTaken)), own(1, failed(noName)), own(1, failed(noSnap)), own(1, failed(noCall)), own(1, listed(5, 1)),
		own(11, read(2, 5)), own(11, lacks(5)), own(4, failed(unknown)), own(1, failed(noKey)), own(1, failed(unknown)), own(1, failed(noName)), own(3, good()), own(1, listed()),
		own(1, good()), own(1, failed(noSnap)), own(1, failed(noCall)),
		own(2+3+2+5+8+1, number(4+4)), own(1, failed(noPart)), own(4, good()), own(4, good()), own(1+8*4, number(8)), own(1, failed(noCall)), own(1, failed(noCall)),
	), [][]int{{3, 56, 0}, {0, 0}, {}, {2, 5, 1, 1, 1, 2, 2}})
}

// A Kind that can't be: a line, whatever comes with it.
func TestKindsThatCantBe(t *testing.T) {
	r := after(t, get(1), snap(0))
	r.plays = true
	for _, kind := range badKinds {
		r.wantsStill(t, "P18.8: a Kind that can't be", api.Call{Kind: kind, A: 1}, failed(noCall), 1)
	}
	s := api.Setup{Parts: 1, Workers: 1, Slots: 3, Leases: 1}
	for _, kind := range badKinds {
		for _, a := range []int{lowest, -1, 0, 3, 4, highest} {
			c := api.Call{Kind: kind, A: a, B: 1, C: 2, Pairs: pairs(5, 2)}
			wantPlay(t, "P18.8: a Kind that can't be", s, work([]api.Call{c, put(7, 1), c, snap(0), c}),
				steps(own(1, failed(noCall)), own(2+5+1+2+2+1+3+4+3+1, wrote(0, 2, 0)), own(1, failed(noCall)), own(5, held(0, 1)), own(1, failed(noCall))), [][]int{{1, 0, 0}, {2}, {}, {2, 2, 1, 7, 1}})
		}
	}
}

// Registers: none, empty ones, full ones; each worker has its own.
func TestRegisters(t *testing.T) {
	s := api.Setup{Parts: 1, Workers: 1, Slots: 3, Leases: 2}
	for _, bad := range badRegisters {
		wantPlay(t, "P18.8: no register", s, work([]api.Call{snap(bad), free(bad), peek(bad, 1), name(1, bad), snap(0), snap(bad), free(bad), peek(bad, 1), name(1, bad), name(-1, bad), peek(bad, -1)}), steps(
			own(1, failed(noCall)), own(1, failed(noCall)), own(1, failed(noCall)), own(1, failed(noCall)), own(5, held(0, 1)),
			own(1, failed(noCall)), own(1, failed(noCall)), own(1, failed(noCall)), own(1, failed(noCall)), own(1, failed(noCall)), own(1, failed(noCall)),
		), [][]int{{1, 3, 0}, {2, 0}, {}, {0}})
	}
	for i := range 4 {
		o := (i + 1) % 4
		wantPlay(t, "P18.8: a register", s, work([]api.Call{get(1), peek(i, 1), free(i), name(3, i), snap(i), snap(i), peek(i, 1), peek(o, 1), free(o), name(3, o), name(3, i), peek(i, 1), free(i), name(4, i), snap(i), name(3, i), free(i), free(i)}), steps(
			own(2+5+1+2+2+1+1+1, lacks(1)), own(1, failed(noSnap)), own(1, failed(noSnap)), own(1, failed(noSnap)), own(5, held(0, 1)), own(1, failed(noCall)), own(6, lacks(1)), own(1, failed(noSnap)), own(1, failed(noSnap)), own(1, failed(noSnap)),
			own(2, good()), own(1, failed(noSnap)), own(1, failed(noSnap)), own(1, failed(noSnap)), own(6, held(1, 2)), own(1, failed(isTaken)), own(1, good()), own(1, failed(noSnap)),
		), [][]int{{1, 2, 0}, {2, 0}, {3, 1}, {2, 1, 1}})
	}
	// Of two workers: what the one took the other one hasn't.
	s.Workers, s.Leases = 2, 8
	x := mixed{s: s, c: work([]api.Call{snap(0), snap(1), snap(2), snap(3)}, []api.Call{free(0), peek(1, 1), name(1, 2), snap(0), snap(1), snap(2), snap(3), free(2)})}
	x.c.Turns = make([]int, 5+6+7+8)
	run, left := wantModel(t, "P18.8: two workers' registers", x)
	for i, want := range []api.Answer{failed(noSnap), failed(noSnap), failed(noSnap), held(4, 5), held(5, 6), held(6, 7), held(7, 8), good()} {
		if !sameAnswer(run.Answers[1][i], want) {
			t.Errorf("P18.8: two workers' registers: call %d: %+v, want %+v", i, run.Answers[1][i], want)
		}
	}
	if !slices.Equal(left.leases, []int{2, 3, 4, 5, 6, 7, 0, 9}) {
		t.Errorf("P18.8: two workers' registers: %+v", left)
	}
}

// What is refused for its register: a line of its own, and nothing else.
func TestRegistersTakeALine(t *testing.T) {
	r := after(t, get(1), snap(0))
	for _, bad := range badRegisters {
		for _, c := range []api.Call{snap(bad), free(bad), peek(bad, 1), name(1, bad)} {
			r.wantsStill(t, "P18.8: no register", c, failed(noCall), 1)
		}
	}
	r.wantsStill(t, "P18.8: a full register", snap(0), failed(noCall), 1)
	for _, c := range []api.Call{free(1), peek(1, 1), name(1, 1)} {
		r.wantsStill(t, "P18.8: an empty register", c, failed(noSnap), 1)
	}
}

// A register whose lease was let go by hand: its Free answers that, and empties it; its Peek and its Name leave it.
func TestRegisterWhoseLeaseWent(t *testing.T) {
	r := after(t, get(1), snap(2), freeBy(0, 0))
	r.wantsStill(t, "P18.8", peek(2, 1), failed(noSnap), 1)
	r.wantsStill(t, "P18.8", name(-1, 2), failed(noName), 1)
	if x, err := r.calls.Register(nil, 2); err != api.OK || x != (api.Snap{Lease: 0, Stamp: 1}) {
		t.Errorf("P18.8: %+v, %v", x, err)
	}
	r.wants(t, "P18.8", free(2), failed(noLease), 1)
	if x, err := r.calls.Register(nil, 2); err != noSnap || x != (api.Snap{}) {
		t.Errorf("P18.8: %+v, %v", x, err)
	}
	r.wants(t, "P18.8", snap(2), held(0, 2), 5)
}

// Calls, Register and Rows by hand: over one store each has registers of its own, all empty at first, and all see the same store.
func TestCallsByHand(t *testing.T) {
	m, _ := store.New(plain)
	a, b := store.NewCalls(m), store.NewCalls(m)
	empty := func(c *store.Calls, list ...int) {
		t.Helper()
		for i := range 4 {
			x, err := c.Register(nil, i)
			if want := slices.Contains(list, i); (err == noSnap) != want || want && x != (api.Snap{}) {
				t.Errorf("P18.8: register %d: %+v, %v", i, x, err)
			}
		}
		for _, n := range badRegisters {
			if x, err := c.Register(nil, n); err != noCall || x != (api.Snap{}) {
				t.Errorf("P18.8: register %d: %+v, %v", n, x, err)
			}
		}
	}
	wants := func(c *store.Calls, x api.Call, want api.Answer) {
		t.Helper()
		if got := c.Do(nil, x); !sameAnswer(got, want) || got.Begin != 0 || got.End != 0 || got.Own != 0 {
			t.Errorf("P18.8: %+v: %+v, want %+v", x, got, want)
		}
	}
	empty(a, 0, 1, 2, 3)
	wants(a, snap(3), held(0, 1))
	wants(b, snap(3), held(1, 2))
	wants(a, put(1, 11), wrote(10, 2, 1))
	wants(b, peek(3, 1), read(10, 1))
	wants(a, peek(3, 1), read(10, 1))
	wants(a, peek(0, 1), failed(noSnap))
	empty(a, 0, 1, 2)
	empty(b, 0, 1, 2)
	if x, err := b.Register(nil, 3); err != api.OK || x != (api.Snap{Lease: 1, Stamp: 2}) {
		t.Errorf("P18.8: %+v, %v", x, err)
	}
	wants(b, name(9, 3), good())
	empty(b, 0, 1, 2, 3)
	empty(a, 0, 1, 2)
	wants(a, names(), listed(9, 2))
	wants(a, peekNamed(9, 1), read(10, 1))
	want := [][]int{{1, 56, 0}, {2, 3}, {9, 2}, {2, 2, 3, 1, 11}, {0}}
	if !sameLists(a.Rows(), want) || !sameLists(b.Rows(), want) {
		t.Errorf("P18.8: %v, %v", a.Rows(), b.Rows())
	}
	wants(a, free(3), good())
	empty(a, 0, 1, 2, 3)
	// Each worker has its own, and what a run left is there behind it.
	d := store.NewCalls(m)
	run, err := crew.Run(work([]api.Call{{}}, []api.Call{snap(1), {}}), does(func(w *crew.Worker, c api.Call) api.Answer {
		if c.Kind != 0 {
			return d.Do(w, c)
		}
		w.Step()
		x, err := d.Register(w, 1)
		return api.Answer{N: x.Lease, M: x.Stamp, Err: err}
	}))
	if err != api.OK || run.Answers[0][0].Err != noSnap || run.Answers[1][1].M != 3 || run.Answers[1][1].N != 0 {
		t.Errorf("P18.8: %+v, %v", run, err)
	}
	empty(d, 0, 1, 2, 3)
}

// What a call has no use for isn't looked at.
func TestFieldsWithoutUse(t *testing.T) {
	calls := []api.Call{
		get(1), put(1, 7), drop(5), swap(1, 7, 8), many(2, 3), snap(0), peek(0, 1), name(3, 0), peekNamed(3, 2), unname(3), snap(1), free(1), trim(0), advance(), advance(), collect(), names(), {Kind: 16},
	}
	uses := map[int]string{1: "A", 2: "AB", 3: "A", 4: "ABC", 5: "P", 6: "A", 7: "A", 8: "AB", 9: "AB", 10: "A", 11: "AB", 12: "A"}
	want, left := wantModel(t, "P18.8: fields", mixed{s: plain, c: work(calls)})
	for _, n := range []int{lowest, -1, 0, 1, 5, 8, 9, highest} {
		var list []api.Call
		for _, c := range calls {
			x := api.Call{Kind: c.Kind, A: n, B: n, C: -n, Pairs: pairs(n, n)}
			for _, field := range uses[c.Kind] {
				switch field {
				case 'A':
					x.A = c.A
				case 'B':
					x.B = c.B
				case 'C':
					x.C = c.C
				default:
					x.Pairs = c.Pairs
				}
			}
			list = append(list, x)
		}
		wantPlay(t, "P18.8: fields", plain, work(list), want, left.rows())
	}
}

// Of an answer a call tells its own fields alone; beside an error none.
func TestFieldsOfAnswers(t *testing.T) {
	mixedPlays(700, manners{wild: true}, func(x mixed) {
		run, _, err := store.Play(x.s, x.c)
		if err != api.OK {
			t.Fatalf("P18.8: %+v: %v", x, err)
		}
		for k, answers := range run.Answers {
			for i, a := range answers {
				c := x.c.Work[k][i]
				tells := map[int]string{1: "nm", 2: "nmi", 3: "nmi", 4: "nmi", 5: "nm", 6: "nm", 8: "nm", 11: "nm", 12: "n", 14: "n", 15: "p"}[c.Kind]
				if a.Err != api.OK {
					tells = ""
				}
				for _, field := range []struct {
					name rune
					told bool
				}{{'n', a.N != 0}, {'m', a.M != 0}, {'i', len(a.Ints) != 0}, {'p', len(a.Pairs) != 0}} {
					if field.told && !slices.Contains([]rune(tells), field.name) {
						t.Fatalf("P18.8: %+v: %+v", c, a)
					}
				}
				switch {
				case a.Err != api.OK && a.Ok, a.Err == api.OK && !a.Ok && (c.Kind == 6 || c.Kind == 7 || c.Kind == 9 || c.Kind == 10 || c.Kind == 12 || c.Kind >= 14):
					t.Fatalf("P18.8: %+v: %+v", c, a)
				case a.Err == api.OK && c.Kind >= 2 && c.Kind <= 4 && (len(a.Ints) != 1 || a.Ints[0] < 0 || a.Ints[0] > 1):
					t.Fatalf("P18.8: %+v: %+v", c, a)
				case (c.Kind < 1 || c.Kind > 15) && (a.Err != noCall || a.Own != 1):
					t.Fatalf("P18.8: %+v: %+v", c, a)
				}
			}
		}
	})
}

// Workers that the epoch doesn't know, of a setup for fewer than there are.
func TestWorkersOfTheEpoch(t *testing.T) {
	for workers := 1; workers <= 8; workers++ {
		s := api.Setup{Parts: 1, Workers: workers, Slots: 90, Leases: 8}
		x := mixed{s: s, c: work()}
		for k := range 8 {
			x.c.Work = append(x.c.Work, []api.Call{
				get(1), put(k, 1), drop(k), swap(k, 0, 0), many(k, 1), snap(0), peek(0, 1), name(k, 0), peekNamed(k, 1), unname(k), snap(0), free(0), trim(0), advance(), collect(), names(), {Kind: 16},
			})
		}
		x.c.Turns = make([]int, 8*200)
		run, _ := wantModel(t, "P18.8: workers", x)
		for k, answers := range run.Answers {
			for i, a := range answers {
				kind := x.c.Work[k][i].Kind
				needs := kind <= 5 || kind == 11 || kind == 12 || kind == 14
				if k >= workers && needs != (a.Err == noWorker) || k < workers && a.Err == noWorker || kind == 13 && a.Ok != (k < workers) {
					t.Errorf("P18.8: %d workers: worker %d, call %d: %+v", workers, k, i, a)
				}
			}
		}
	}
}

// The rows: of parts that were never loaded, that are empty, that failed to load, that are being loaded, whose newest version isn't settled; of leases that are being taken.
func TestRows(t *testing.T) {
	s := api.Setup{Parts: 3, Workers: 1, Slots: 30, Leases: 2, Source: pairs(1, 10, 2, lowest, mostKey, highest)}
	middle := 1 << 31
	wants := func(what string, s api.Setup, halt int, want [][]int, calls ...api.Call) {
		t.Helper()
		c := work(calls)
		c.Halt = []int{halt}
		_, left := wantModel(t, "P18.8: "+what, mixed{s: s, c: c})
		if got := left.rows(); !sameLists(got, want) {
			t.Errorf("P18.8: %s: %v, want %v", what, got, want)
		}
	}
	wants("loaded", s, 0, [][]int{{1, 23, 0}, {0, 0}, {}, {2, 1, 1, 1, 10, 2, lowest}, {2, 1, 1}, {2, 1, 1, mostKey, highest}}, get(1), get(middle), get(mostKey))
	wants("never loaded", s, 0, [][]int{{1, 29, 0}, {0, 0}, {}, {0}, {2, 1, 1}, {0}}, get(middle))
	wants("made empty", s, 0, [][]int{{1, 27, 0}, {0, 0}, {}, {0}, {0}, {2, 2, 1}}, drop(mostKey))
	failing := s
	failing.Fails = 1
	wants("failed to load", failing, 0, [][]int{{1, 30, 0}, {0, 0}, {}, {0}, {0}, {0}}, get(1), get(middle), get(mostKey))
	failing.Fails, failing.Slots = 0, 3
	wants("found no room to load", failing, 0, [][]int{{1, 3, 0}, {0, 0}, {}, {0}, {0}, {0}}, get(1))
	wants("being loaded", s, 2, [][]int{{1, 30, 0}, {0, 0}, {}, {0}, {1}, {0}}, get(middle))
	wants("being loaded", s, 2+5, [][]int{{1, 29, 0}, {0, 0}, {}, {0}, {1, 1, 1}, {0}}, get(middle))
	ahead := linesOf(s, get(middle), snap(1))
	wants("published", s, ahead+1+2+2+1+3+3, [][]int{{1, 27, 0}, {2, 0}, {}, {0}, {2, 1, 1}, {0}}, get(middle), snap(1), put(middle, -5))
	wants("not settled", s, ahead+1+2+2+1+3+4, [][]int{{1, 27, 0}, {2, 0}, {}, {0}, {2, 2, 0, middle, -5}, {0}}, get(middle), snap(1), put(middle, -5))
	wants("settled", s, ahead+1+2+2+1+3+7, [][]int{{1, 27, 0}, {2, 0}, {}, {0}, {2, 2, 2, middle, -5}, {0}}, get(middle), snap(1), put(middle, -5))
	wants("a lease that is being taken", s, 1, [][]int{{1, 30, 0}, {1, 0}, {}, {0}, {0}, {0}}, snap(0))
	wants("names", s, 0, [][]int{{1, 30, 0}, {2, 3}, {0, 2, mostKey, 1}, {0}, {0}, {0}}, snap(0), name(mostKey, 0), snap(0), name(0, 0))
}

// The rows tell the faults, too: in a Play there are none, so they are made by hand. A part whose newest version was given back has none.
func TestRowsOfFaults(t *testing.T) {
	r := after(t, get(1), get(far), give(word(2, 1)))
	for i := range 3 {
		if rows := r.calls.Rows(); !sameLists(rows, [][]int{{1, 57, i}, {0, 0}, {}, {2}, {2, 1, 1, far, 20}}) {
			t.Errorf("P18.8: %v", rows)
		}
		r.wants(t, "P18.2", get(1), failed(gone), 1+2+2+1)
	}
}

// stop: a call behind others, all of worker 0.
type stop struct {
	name  string
	s     api.Setup
	ahead []api.Call
	call  api.Call
	lines int
}

func stops() []stop {
	s := api.Setup{Parts: 2, Workers: 2, Slots: 30, Leases: 3, Source: pairs(1, 10, far, 20)}
	failing, few := s, s
	failing.Fails = 1
	few.Slots = 2
	at := []api.Call{get(1), snap(0), put(1, 11), snap(1), name(7, 1)}
	with := func(more ...api.Call) []api.Call { return append(slices.Clone(at), more...) }
	return []stop{
		{"Get that loads", s, nil, get(1), 18},
		{"Get", s, at, get(1), 8},
		{"Get whose loading fails", failing, nil, get(1), 3},
		{"Get without room to load", api.Setup{Parts: 1, Workers: 2, Slots: 1, Leases: 1, Source: pairs(1, 10)}, nil, get(1), 2 + 3 + 1 + 4 + 1},
		{"Put that loads", s, nil, put(1, 12), 28},
		{"Put", s, at, put(2, 12), 21},
		{"Put that changes nothing", s, at, put(1, 11), 8},
		{"Put without room for its node", few, []api.Call{get(1)}, put(1, 12), 1 + 2 + 2 + 1 + 1 + 1 + 1},
		{"Put without room for its version", api.Setup{Parts: 1, Workers: 2, Slots: 3, Leases: 1, Source: pairs(1, 10)}, []api.Call{get(1)}, put(1, 12), 1 + 2 + 2 + 1 + 1 + 3 + 1 + 4 + 1},
		{"Drop", s, at, drop(1), 15},
		{"Swap", s, at, swap(1, 11, 13), 19},
		{"Swap of another value", s, at, swap(1, 10, 13), 8},
		{"Many", s, at, many(1, 1, 2, 2, 1, 3), 41},
		{"Snap", s, at, snap(2), 7},
		{"Snap without a lease", s, with(snap(2)), snap(3), 3},
		{"Free", s, at, free(0), 1},
		{"Peek", s, at, peek(0, 1), 8},
		{"Peek that loads", s, at, peek(0, far), 16},
		{"Name", s, at, name(8, 0), 2},
		{"Name that is taken", s, at, name(7, 0), 1},
		{"Unname", s, at, unname(7), 3},
		{"Unname of none", s, at, unname(8), 1},
		{"PeekNamed", s, at, peekNamed(7, 1), 10},
		{"PeekNamed that loads", s, at, peekNamed(7, far), 20},
		{"PeekNamed of none", s, at, peekNamed(8, 1), 4},
		{"Trim", s, with(free(0), put(1, 5)), trim(0), 15},
		{"Trim of nothing", s, nil, trim(0), 8},
		{"Advance", s, at, advance(), 4},
		{"Collect", s, with(free(0), trim(0), advance(), advance()), collect(), 9},
		{"Names", s, at, names(), 1},
		{"no call", s, at, api.Call{Kind: 16}, 1},
		{"no key", s, at, get(-1), 1},
	}
}

// A call that is stopped for good has done its lines and no more; what others do behind it tells who is within, what waits and what is there.
func TestHaltsAndCutsAtEveryLine(t *testing.T) {
	others := []api.Call{
		advance(), advance(), get(1), snap(0), peek(0, 1), peekNamed(7, 1), trim(0), advance(), advance(), collect(), unname(7), name(7, 0), names(), get(far),
	}
	for _, x := range stops() {
		ahead := linesOf(x.s, x.ahead...)
		calls := append(slices.Clone(x.ahead), x.call, get(1))
		if got := linesOf(x.s, calls[:len(calls)-1]...) - ahead; got != x.lines {
			t.Errorf("P18.8: %s: the model does %d lines, want %d", x.name, got, x.lines)
		}
		for at := 1; at <= x.lines; at++ {
			open, ended := []api.Open{{Worker: 0, Begin: ahead + 1, Own: at}}, len(x.ahead)
			if at == x.lines {
				open, ended = nil, ended+1
			}
			c := work(calls)
			c.Until = ahead + at
			run, left := wantModel(t, "P18.8: "+x.name, mixed{s: x.s, c: c})
			if !run.Cut || run.Steps != ahead+at || !slices.Equal(run.Open, open) || len(run.Answers[0]) != ended || left.faults != 0 {
				t.Errorf("P18.8: %s, cut behind %d lines: %+v, %+v", x.name, at, run, left)
			}
			f := check(t, mixed{s: x.s, c: c})
			if last := f.moments[len(f.moments)-1]; !last.same(left) {
				t.Errorf("P18.8: %s, cut behind %d lines: %+v, want %+v", x.name, at, left, last)
			}
			c = work(calls, others)
			c.Turns, c.Halt = make([]int, ahead+at), []int{ahead + at}
			run, left = wantModel(t, "P18.8: "+x.name, mixed{s: x.s, c: c})
			if run.Cut || !slices.Equal(run.Open, open) || len(run.Answers[0]) != ended || len(run.Answers[1]) != len(others) || left.faults != 0 {
				t.Errorf("P18.8: %s, halted behind %d lines: %+v, %+v", x.name, at, run, left)
			}
			check(t, mixed{s: x.s, c: c})
		}
	}
}

func TestAgainstModel(t *testing.T) {
	takesLong(t)
	counts := map[string]int{}
	errs := map[api.Errno]int{}
	for _, how := range []manners{{}, {wild: true}, {busy: true}} {
		mixedPlays(2000, how, func(x mixed) {
			run, left := wantModel(t, "P18.8", x)
			for k, answers := range run.Answers {
				for i, a := range answers {
					errs[a.Err]++
					if a.Err == api.OK {
						counts[fmt.Sprintf("kind %d, %v", x.c.Work[k][i].Kind, a.Ok)]++
					}
				}
			}
			counts["open"] += len(run.Open)
			counts["cut"] += bit(run.Cut)
			if left.faults != 0 {
				t.Fatalf("P32.2: %+v: %d faults", x, left.faults)
			}
		})
	}
	for _, err := range []api.Errno{api.OK, noCall, noSnap, isTaken, noKey, other, noPart, busy, fails, noRoom, noWorker, noLeases, notThere, noName, unknown} {
		if errs[err] < 50 {
			t.Errorf("the cases are too plain: %v comes %d times", err, errs[err])
		}
	}
	for kind := 1; kind <= 15; kind++ {
		for _, ok := range []bool{false, true} {
			what := fmt.Sprintf("kind %d, %v", kind, ok)
			always := kind == 6 || kind == 7 || kind == 9 || kind == 10 || kind == 12 || kind >= 14
			if counts[what] < 10 && (ok || !always) {
				t.Errorf("the cases are too plain: %d %s", counts[what], what)
			}
		}
	}
	if counts["open"] < 300 || counts["cut"] < 300 {
		t.Errorf("the cases are too plain: %v", counts)
	}
}

// Calls by their names, on stores that were spoilt: each error, at each of its places, step by step.
func TestSpoiltAgainstModel(t *testing.T) {
	takesLong(t)
	errs := map[string]int{}
	mixedPlays(3000, manners{named: true}, func(x mixed) {
		if !canBeFilmed(x) {
			return
		}
		f := wantFilm(t, "P18.3: spoilt", x)
		for k, answers := range f.run.Answers {
			for i, a := range answers {
				errs[fmt.Sprint(x.c.Work[k][i].Kind%kindHand, " ", int(a.Err))]++
			}
		}
	})
	for _, what := range []string{
		"1 104", "2 104", "3 104", "8 104", "11 104", "12 104", "101 0", "101 151", "101 182", "102 0", "102 152", "102 161", "102 182", "103 133", "104 10", "104 11", "104 91", "104 183", "105 132", "10 133",
	} {
		if errs[what] == 0 {
			t.Errorf("the cases are too plain: %s never comes: %v", what, errs)
		}
	}
}

func TestGreatestCase(t *testing.T) {
	m := mixer(3)
	c := api.Case{}
	for range api.MaxWorkers {
		var calls []api.Call
		h := &hopes{stand: new([3]bool)}
		for range api.MaxCalls {
			calls = append(calls, m.likely(m.call(manners{wild: true}, 64), h))
		}
		c.Work = append(c.Work, calls)
	}
	for _, s := range []api.Setup{
		{Parts: mostParts, Workers: 8, Slots: mostSlots, Leases: mostLeases, Source: m.pairs(manners{}, mostSource)},
		{Parts: 1, Workers: 8, Slots: 200, Leases: 4, Source: pairs(1, 1)},
		{Parts: 2, Workers: 4, Slots: 20, Leases: 8, Fails: 3},
		{Parts: 1, Workers: 8, Slots: 4, Leases: 1},
	} {
		if run, left := wantModel(t, "P18.8: the greatest case", mixed{s: s, c: c}); run.Steps < 1500 || left.faults != 0 {
			t.Errorf("P18.8: the greatest case: %d steps", run.Steps)
		}
	}
}

func TestPlayIsTheSameEachTime(t *testing.T) {
	mixedPlays(200, manners{wild: true}, func(x mixed) {
		run, rows, err := store.Play(x.s, x.c)
		for range 4 {
			again, then, e := store.Play(x.s, x.c)
			if !sameRun(run, again) || !sameLists(rows, then) || e != err {
				t.Fatalf("rule 6: %+v\nonce %+v %v %v\nthen %+v %v %v", x, run, rows, err, again, then, e)
			}
		}
	})
}

func TestPlayLeavesNothing(t *testing.T) {
	before := runtime.NumGoroutine()
	mixedPlays(200, manners{wild: true}, func(x mixed) { store.Play(x.s, x.c) })
	for range 500 {
		if runtime.NumGoroutine() <= before {
			return
		}
		time.Sleep(time.Millisecond)
	}
	t.Errorf("P18.8: %d goroutines, %d ahead of it", runtime.NumGoroutine(), before)
}
