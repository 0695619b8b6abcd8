package audit_test

import (
	"reflect"
	"slices"
	"sync"
	"testing"

	"skein/api"
	"skein/audit"
	"skein/crew"
	"skein/store"
)

// audited: all that is told of a map.
func audited(m *store.Store) api.Audit {
	return api.Audit{Uses: audit.Uses(m), Trims: audit.Trims(m), Least: audit.Least(m), Rest: audit.Rest(m)}
}

// copied copies an audit and what hangs on it.
func copied(a api.Audit) api.Audit {
	a.Uses, a.Trims = slices.Clone(a.Uses), slices.Clone(a.Trims)
	return a
}

// writeOver writes into a list and all the spare room behind it.
func writeOver[T any](list []T, x T) {
	list = list[:cap(list)]
	for i := range list {
		list[i] = x
	}
}

// Rule 3: what is answered is new memory: written over, it changes neither another answer nor what is told next; nor the map.
func TestAnswersAreNewMemory(t *testing.T) {
	m := after(t, put(1, 11), put(2, 2), snap(0), put(far, 3), trim(0))
	was := pictureOf(m)
	for range 3 {
		a, b := audited(m), audited(m)
		kept := copied(b)
		writeOver(a.Uses, api.Use{Kind: -99, Part: -99})
		writeOver(a.Trims, -99)
		if c := audited(m); !reflect.DeepEqual(b, kept) || !reflect.DeepEqual(c, kept) {
			t.Fatalf("rule 3: %+v, %+v, want %+v", b, c, kept)
		}
	}
	if is := pictureOf(m); !is.same(was) {
		t.Errorf("rule 3: %+v, want %+v", is, was)
	}
}

// Rule 3: what Play is handed in is neither changed nor kept, its spare room included; two lists of its answer share nothing.
func TestPlayKeepsToItsOwnMemory(t *testing.T) {
	const odd = -99
	roomy := func(list []int) []int { return append(slices.Clone(list), odd, odd)[:len(list)] }
	roomyPairs := func(list []api.Pair) []api.Pair {
		return append(slices.Clone(list), api.Pair{Key: odd})[:len(list)]
	}
	var mix mixer = 33
	for i := range 60 {
		x := mix.busyCase()
		x.c.Turns, x.c.Halt = mix.turns(100), mix.halts(len(x.c.Work), 200)
		if i%2 == 0 {
			x.c.Until = 1 + mix.below(200)
		}
		wantRun, want, _ := audit.Play(x.s, x.c)
		s, c := x.s, x.c
		s.Source, c.Turns, c.Halt, c.Work = roomyPairs(s.Source), roomy(c.Turns), roomy(c.Halt), nil
		for _, calls := range x.c.Work {
			calls = slices.Clone(calls)
			for j := range calls {
				calls[j].Pairs = roomyPairs(calls[j].Pairs)
			}
			c.Work = append(c.Work, calls)
		}
		run, a, err := audit.Play(s, c)
		if err != api.OK || !reflect.DeepEqual(run, wantRun) || !reflect.DeepEqual(a, want) {
			t.Fatalf("rule 6: %+v: %+v, %+v, %v, want %+v, %+v", x, run, a, err, wantRun, want)
		}
		if !slices.Equal(s.Source, x.s.Source) || !slices.Equal(c.Turns, x.c.Turns) || !slices.Equal(c.Halt, x.c.Halt) || c.Turns[:len(c.Turns)+1][len(c.Turns)] != odd ||
			c.Halt[:len(c.Halt)+1][len(c.Halt)] != odd || s.Source[:len(s.Source)+1][len(s.Source)].Key != odd {
			t.Fatalf("rule 3: Play changes %+v, %+v", s, c)
		}
		for k, calls := range c.Work {
			for j, call := range calls {
				was := x.c.Work[k][j]
				if call.Kind != was.Kind || call.A != was.A || call.B != was.B || call.C != was.C || !slices.Equal(call.Pairs, was.Pairs) || call.Pairs[:len(call.Pairs)+1][len(call.Pairs)].Key != odd {
					t.Fatalf("rule 3: Play changes %+v to %+v", was, call)
				}
				writeOver(call.Pairs, api.Pair{Key: odd, Value: odd})
				calls[j] = api.Call{Kind: odd}
			}
		}
		writeOver(s.Source, api.Pair{Key: odd, Value: odd})
		writeOver(c.Turns, odd)
		writeOver(c.Halt, odd)
		if !reflect.DeepEqual(run, wantRun) || !reflect.DeepEqual(a, want) {
			t.Fatalf("rule 3: an answer hangs on what was handed in: %+v", x)
		}
		writeOver(a.Uses, api.Use{Kind: odd})
		if !slices.Equal(a.Trims, want.Trims) || !reflect.DeepEqual(run, wantRun) {
			t.Fatalf("rule 3: two lists of an answer share memory: %+v", x)
		}
		writeOver(a.Trims, odd)
		if !reflect.DeepEqual(run, wantRun) {
			t.Fatalf("rule 3: two lists of an answer share memory: %+v", x)
		}
	}
}

// P23.3: to ask is no line, and changes nothing: a run in which all is asked again and again is the run without that.
func TestAskingIsNoLine(t *testing.T) {
	var mix mixer = 34
	asked := 0
	for i := range 120 {
		x := mix.busyCase()
		x.c.Turns = mix.turns(150)
		if i%2 == 1 {
			x.c.Halt = mix.halts(len(x.c.Work), 150)
		}
		want, a, _ := audit.Play(x.s, x.c)
		m := newMap(t, x.s)
		calls := store.NewCalls(m)
		run, err := crew.Run(x.c, does(func(w *crew.Worker, c api.Call) api.Answer {
			asked++
			before := audited(m)
			if is := audited(m); !reflect.DeepEqual(is, before) {
				t.Errorf("rule 6: %+v: %+v, then %+v", x, before, is)
			}
			answer := calls.Do(w, c)
			audited(m)
			return answer
		}))
		if is := audited(m); err != api.OK || !reflect.DeepEqual(run, want) || !reflect.DeepEqual(is, a) {
			t.Fatalf("P23.3: %+v: %+v, %+v, %v, want %+v, %+v", x, run, is, err, want, a)
		}
	}
	if asked < 1000 {
		t.Errorf("the cases are too plain: %d", asked)
	}
}

// P23.3: to ask counts no fault, even where a handle that is gone hangs on a version.
func TestAskingCountsNoFault(t *testing.T) {
	m := after(t, put(1, 11), put(1, 12))
	m.Pool().Give(nil, handle(2, 1)) // the first version
	m.Pool().Give(nil, handle(5, 1)) // the newest one's leaf
	was := pictureOf(m)
	for range 3 {
		audited(m)
	}
	if is := pictureOf(m); !is.same(was) || is.faults != 0 {
		t.Errorf("P23.3: %+v, want %+v", is, was)
	}
	wantLeast(t, "P23.3: the leaf is gone", m, 1)
}

// Rule 6: what is told of one map doesn't hang on others: many one behind the other, two side by side.
func TestManyMaps(t *testing.T) {
	var mix mixer = 35
	var list []mixed
	var tells []api.Audit
	for range 40 {
		x := mix.busyCase()
		x.c.Turns, x.c.Until = mix.turns(60), 1+mix.below(200)
		_, a, err := audit.Play(x.s, x.c)
		if err != api.OK {
			t.Fatal(err)
		}
		list, tells = append(list, x), append(tells, copied(a))
	}
	for range 300 {
		i, j := mix.below(len(list)), mix.below(len(list))
		one, _ := ran(t, list[i].s, list[i].c)
		other, _ := ran(t, list[j].s, list[j].c)
		for range 2 {
			if a, b := audited(one), audited(other); !reflect.DeepEqual(a, tells[i]) || !reflect.DeepEqual(b, tells[j]) {
				t.Fatalf("rule 6: %+v, %+v, want %+v, %+v", a, b, tells[i], tells[j])
			}
		}
		// What is done with the one isn't to be seen in the other one.
		do(t, one, advance())
		one.Pool().Take(nil, api.Node{}, 0)
		if b := audited(other); !reflect.DeepEqual(b, tells[j]) {
			t.Fatalf("rule 6: %+v, want %+v", b, tells[j])
		}
	}
}

// Rule 6: many may play at one time.
func TestPlaysAtOneTime(t *testing.T) {
	var mix mixer = 36
	var list []mixed
	var tells []api.Audit
	for range 8 {
		x := mix.busyCase()
		x.c.Turns, x.c.Halt = mix.turns(60), mix.halts(4, 100)
		_, a, _ := audit.Play(x.s, x.c)
		list, tells = append(list, x), append(tells, a)
	}
	var done sync.WaitGroup
	for k := range 8 {
		done.Go(func() {
			for i := range 20 {
				n := (k + i) % 8
				if _, a, err := audit.Play(list[n].s, list[n].c); err != api.OK || !reflect.DeepEqual(a, tells[n]) {
					t.Errorf("rule 6: %+v: %+v, %v, want %+v", list[n], a, err, tells[n])
				}
				if sums := audit.Sums(tells[n].Uses); sums.Free+sums.Versions+sums.Nodes+sums.Waiting+sums.Other != list[n].s.Slots {
					t.Errorf("P23.5: %+v", sums)
				}
			}
		})
	}
	done.Wait()
}

// One map that nobody changes may be asked by many at one time.
func TestAskedAtOneTime(t *testing.T) {
	m := after(t, put(1, 11), put(far, 3), snap(0), put(2, 2), put(1, 12), trim(0))
	want := audited(m)
	var done sync.WaitGroup
	for range 8 {
		done.Go(func() {
			for range 50 {
				if a := audited(m); !reflect.DeepEqual(a, want) {
					t.Errorf("rule 6: %+v, want %+v", a, want)
				}
			}
		})
	}
	done.Wait()
}
