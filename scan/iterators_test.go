package scan_test

import (
	"fmt"
	"iter"
	"slices"
	"testing"

	"skein/api"
	"skein/crew"
	"skein/scan"
)

// asked: an iterator's name, and what it gives, as a text.
type asked struct {
	name string
	give iter.Seq[string]
	want []string
}

// texts: what an iterator gives, as texts.
func texts[T any](given iter.Seq2[T, api.Errno]) iter.Seq[string] {
	return func(yield func(string) bool) {
		for x, err := range given {
			if !yield(fmt.Sprint(x, int(err))) {
				return
			}
		}
	}
}

// askedOf: iterators over the example's map, by a worker or by none.
func askedOf(r real, w *crew.Worker) []asked {
	x, y, no := exampleX, exampleY, at(2, 9)
	ranges := func(x api.Snap, lo, hi int) iter.Seq[string] { return texts(scan.Range(r.Store, w, x, lo, hi)) }
	diffs := func(x, y api.Snap) iter.Seq[string] { return texts(scan.Diff(r.Store, w, x, y)) }
	return []asked{
		{"Range(x)", ranges(x, 0, mostKey), []string{"{1 10} 0", "{2 20} 0", "{4000000000 40} 0"}},
		{"Range(y)", ranges(y, 2, 3), []string{"{2 21} 0", "{3 30} 0"}},
		{"Range(x, 5, 4)", ranges(x, 5, 4), nil},
		{"Range(x, -1, 4)", ranges(x, -1, 4), []string{"{0 0} 191"}},
		{"Range of no snapshot", ranges(no, 0, 4), []string{"{0 0} 182"}},
		{"Diff(x, y)", diffs(x, y), []string{"{1 10 0 true false} 0", "{2 20 21 true true} 0", "{3 0 30 false true} 0"}},
		{"Diff(y, x)", diffs(y, x), []string{"{1 0 10 false true} 0", "{2 21 20 true true} 0", "{3 30 0 true false} 0"}},
		{"Diff(x, x)", diffs(x, x), nil},
		{"Diff of no snapshot", diffs(no, y), []string{"{0 0 0 false false} 182"}},
		{"Diff with no snapshot", diffs(y, no), []string{"{0 0 0 false false} 182"}},
	}
}

// Left behind each thing that they give, and gone through again.
func TestIteratorsAreLeft(t *testing.T) {
	for i, a := range askedOf(newExample(t), nil) {
		for at := range len(a.want) + 1 {
			var got []string
			for s := range a.give {
				if got = append(got, s); len(got) == at {
					break
				}
			}
			if want := a.want[:at]; at > 0 && !slices.Equal(got, want) {
				t.Errorf("rule 7: %s, left behind %d: %v", a.name, at, got)
			}
			if again := slices.Collect(a.give); !slices.Equal(again, a.want) {
				t.Errorf("rule 7: iterator %d, again: %v, want %v", i, again, a.want)
			}
		}
	}
}

// One within another: each with each, and each with itself.
func TestIteratorsWithinAnother(t *testing.T) {
	list := askedOf(newExample(t), nil)
	for _, a := range list {
		for _, b := range list {
			var outer []string
			for s := range a.give {
				outer = append(outer, s)
				for range b.give {
					break
				}
				if inner := slices.Collect(b.give); !slices.Equal(inner, b.want) {
					t.Errorf("rule 7: %s within %s: %v", b.name, a.name, inner)
				}
			}
			if !slices.Equal(outer, a.want) {
				t.Errorf("rule 7: %s around %s: %v", a.name, b.name, outer)
			}
		}
	}
}

// Pulled by turns.
func TestIteratorsByTurns(t *testing.T) {
	list := askedOf(newExample(t), nil)
	got := make([][]string, 2*len(list))
	var nexts []func() (string, bool)
	for _, a := range append(slices.Clone(list), list...) {
		next, stop := iter.Pull(a.give)
		defer stop()
		nexts = append(nexts, next)
	}
	for range 5 {
		for i, next := range nexts {
			if s, ok := next(); ok {
				got[i] = append(got[i], s)
			}
		}
	}
	for i, a := range append(slices.Clone(list), list...) {
		if !slices.Equal(got[i], a.want) {
			t.Errorf("rule 7: %s: %v", a.name, got[i])
		}
	}
}

// Asked for, and never gone through: no line is done, nothing is loaded.
func TestIteratorsThatNobodyGoesThrough(t *testing.T) {
	r := newReal(t, example).do(t, lease())
	was := r.state()
	a := lonely(t, work([]api.Call{{}}), does(func(w *crew.Worker, _ api.Call) api.Answer { return api.Answer{N: len(askedOf(r, w))} }))
	if a.Own != 0 || a.N == 0 || !r.state().same(was) {
		t.Errorf("rule 7: %+v, %+v", a, r.state())
	}
}

// Each going through does all its lines, the first one as well as the second one.
func TestIteratorsDoTheirLinesEachTime(t *testing.T) {
	r := newExample(t).do(t, rangeBy(exampleX, 0, mostKey))
	lines := []int{20, 8, 1, 1, 1, 32, 32, 32, 1, 6}
	for i := range lines {
		for times := range 4 {
			a := lonely(t, work([]api.Call{{}}), does(func(w *crew.Worker, _ api.Call) api.Answer {
				given := askedOf(r, w)[i].give
				for range times {
					for range given {
					}
				}
				return api.Answer{}
			}))
			if a.Own != times*lines[i] {
				t.Errorf("rule 7: %s, %d times: %d lines, want %d each", askedOf(r, nil)[i].name, times, a.Own, lines[i])
			}
		}
	}
}

// What is left early has read no more than it gave: the lines up to each thing.
func TestLinesUpToWhereItIsLeft(t *testing.T) {
	b := newBeside(t, api.Setup{Parts: 3, Workers: 1, Slots: 100, Leases: 2, Source: pairs(1, 10, 2, 20, 5, 50, 1<<31, 7, far, 40, mostKey, 1)}, lease(), rangeBy(at(0, 1), 0, mostKey), put(1, 11), drop(2), many(far, 3, mostKey, 2, far+5, 9), lease())
	for behind := 1; behind <= 7; behind++ {
		b.does(t, "P19.1", left(rangeBy(at(0, 1), 0, mostKey), behind), left(rangeBy(at(1, 2), 0, mostKey), behind), left(rangeBy(at(1, 2), 2, far), behind))
		b.does(t, "P19.4", left(diffBy(at(0, 1), at(1, 2)), behind), left(diffBy(at(1, 2), at(0, 1)), behind))
	}
	// Written out: the first pair is met with the root, the inner node of 1 and 2, and its leaf.
	if a := b.by(t, left(rangeBy(at(0, 1), 0, mostKey), 1)); !sameAnswer(a, gave(1, 10)) || a.Own != 5+2*2+3 {
		t.Errorf("P19.1: %+v", a)
	}
	if a := b.by(t, left(rangeBy(at(0, 1), 0, mostKey), 3)); !sameAnswer(a, gave(1, 10, 2, 20, 5, 50)) || a.Own != 5+2*2+5 {
		t.Errorf("P19.1: %+v", a)
	}
}

// Asked for ahead of what happens: an iterator gives what there is when it is gone through, which by a snapshot that is held is always the same.
func TestIteratorsAskedForEarly(t *testing.T) {
	r := newReal(t, example)
	x, y := at(0, 1), at(1, 2)
	ranges, diffs := texts(scan.Range(r.Store, nil, x, 0, mostKey)), texts(scan.Diff(r.Store, nil, x, y))
	wants := func(what string, ranged, changed []string) {
		t.Helper()
		if got := slices.Collect(ranges); !slices.Equal(got, ranged) {
			t.Errorf("rule 7: %s: Range: %v, want %v", what, got, ranged)
		}
		if got := slices.Collect(diffs); !slices.Equal(got, changed) {
			t.Errorf("rule 7: %s: Diff: %v, want %v", what, got, changed)
		}
	}
	noPair, noChange := []string{"{0 0} 182"}, []string{"{0 0 0 false false} 182"}
	wants("nobody has the snapshot", noPair, noChange)
	r.do(t, lease())
	three := []string{"{1 10} 0", "{2 20} 0", "{4000000000 40} 0"}
	wants("one snapshot", three, noChange)
	r.do(t, put(1, 11))
	wants("a write", three, noChange)
	r.do(t, lease())
	wants("two snapshots", three, []string{"{1 10 11 true true} 0"})
	r.do(t, put(1, 12), drop(far), put(3, 3), trim(0), trim(1), advance(), advance(), collect())
	wants("writes", three, []string{"{1 10 11 true true} 0"})
	r.do(t, freeBy(1, 0))
	wants("one is let go", three, noChange)
	r.do(t, freeBy(0, 0), lease())
	wants("another one has its lease", noPair, noChange)
}

// While one is gone through others write, trim and collect, between any two things that it gives: it gives the same.
func TestWritesWhileItIsGoneThrough(t *testing.T) {
	s := api.Setup{Parts: 2, Workers: 1, Slots: 60, Leases: 3, Source: pairs(1, 10, 2, 20, 3, 30, far, 40, far+1, 50)}
	r := newReal(t, s).do(t, get(1), lease(), put(2, 21), put(far, 41), lease())
	given := 0
	disturb := func() {
		given++
		for _, key := range []int{1, 2, 3, 4, far, far + 1, far + 2} {
			r.Put(nil, key, 1000+given)
		}
		r.Drop(nil, 2)
		r.Drop(nil, far)
		for range 2 {
			r.Trim(nil, 0)
			r.Trim(nil, 1)
			r.Advance(nil)
			r.Advance(nil)
			r.Collect(nil)
		}
	}
	for range 5 {
		var list []api.Pair
		for pair, err := range scan.Range(r.Store, nil, at(0, 1), 0, mostKey) {
			if err != api.OK {
				t.Fatalf("P32.7: %v", err)
			}
			list = append(list, pair)
			disturb()
		}
		if want := pairs(1, 10, 2, 20, 3, 30, far, 40, far+1, 50); !slices.Equal(list, want) {
			t.Errorf("P32.7: %v, want %v", list, want)
		}
		var changes []api.Change
		for c, err := range scan.Diff(r.Store, nil, at(0, 1), at(1, 2)) {
			if err != api.OK {
				t.Fatalf("P32.7: %v", err)
			}
			changes = append(changes, c)
			disturb()
		}
		if want := []api.Change{change(2, 20, 21), change(far, 40, 41)}; !slices.Equal(changes, want) {
			t.Errorf("P32.7: %v, want %v", changes, want)
		}
	}
	if r.Pool().Faults() != 0 || given != 5*7 {
		t.Errorf("P32.2: %d faults, %d given", r.Pool().Faults(), given)
	}
}
