package store_test

import (
	"slices"
	"testing"

	"skein/api"
	"skein/store"
)

// roomy copies a list into one with spare room, in which something stands.
func roomy[T any](list []T, more T) []T {
	room := append(slices.Clone(list), more, more, more)
	return room[:len(list)]
}

// untouched tells whether a roomy list is as it was.
func untouched[T comparable](list, was []T, more T) bool {
	return slices.Equal(list, was) && slices.Equal(list[:len(list)+3][len(list):], []T{more, more, more})
}

// writeOver writes into a list and all the spare room behind it.
func writeOver[T any](list []T, x T) {
	list = list[:cap(list)]
	for i := range list {
		list[i] = x
	}
}

func plainRows(rows [][]int) [][]int {
	var list [][]int
	for _, row := range rows {
		list = append(list, slices.Clone(row))
	}
	return list
}

// spoilt: a number and a pair that nothing tells.
const spoilt = -99

var spoiltPair = api.Pair{Key: spoilt, Value: spoilt}

// What a Play is handed in is neither changed nor kept; no two lists of what it answers share memory.
func TestPlayKeepsToItsOwnMemory(t *testing.T) {
	told := map[string]int{}
	mixedPlays(500, manners{wild: true}, func(x mixed) {
		s, c := x.s, plainCase(x.c)
		s.Source = roomy(s.Source, spoiltPair)
		c.Turns, c.Halt = roomy(c.Turns, 71), roomy(c.Halt, 71)
		for k := range c.Work {
			for i := range c.Work[k] {
				c.Work[k][i].Pairs = roomy(c.Work[k][i].Pairs, spoiltPair)
			}
		}
		run, rows, _ := store.Play(s, c)
		if !untouched(c.Turns, x.c.Turns, 71) || !untouched(c.Halt, x.c.Halt, 71) || !untouched(s.Source, x.s.Source, spoiltPair) {
			t.Fatalf("rule 3: Play changed what was handed in: %+v, %+v", s, c)
		}
		keptRun, kept := plainRun(run), plainRows(rows)
		for k := range c.Work {
			for i := range c.Work[k] {
				is, was := c.Work[k][i], x.c.Work[k][i]
				if is.Kind != was.Kind || is.A != was.A || is.B != was.B || is.C != was.C || !untouched(is.Pairs, was.Pairs, spoiltPair) {
					t.Fatalf("rule 3: Play changed what was handed in: %+v", is)
				}
				writeOver(is.Pairs, spoiltPair)
				c.Work[k][i] = api.Call{Kind: spoilt}
			}
		}
		writeOver(c.Turns, spoilt)
		writeOver(c.Halt, spoilt)
		writeOver(s.Source, spoiltPair)
		if !sameRun(run, keptRun) || !sameLists(rows, kept) {
			t.Fatalf("rule 3: an answer hangs on what was handed in: %+v", x)
		}
		for i := range rows {
			told["rows"]++
			writeOver(rows[i], spoilt)
			rows[i], kept[i] = nil, nil
			if !sameLists(rows, kept) || !sameRun(run, keptRun) {
				t.Fatalf("rule 3: two rows share memory: %+v", x)
			}
		}
		for k, answers := range run.Answers {
			for i := range answers {
				told["ints"] += len(answers[i].Ints)
				told["pairs"] += len(answers[i].Pairs)
				writeOver(answers[i].Ints, spoilt)
				writeOver(answers[i].Pairs, spoiltPair)
				run.Answers[k][i], keptRun.Answers[k][i] = api.Answer{}, api.Answer{}
				if !sameRun(run, keptRun) {
					t.Fatalf("rule 3: two answers share memory: %+v", x)
				}
			}
		}
		wantModel(t, "rule 3: behind answers that were written over", x)
	})
	if told["rows"] < 1500 || told["ints"] < 200 || told["pairs"] < 50 {
		t.Errorf("the cases are too plain: %v", told)
	}
}

// What New and Many are handed in they don't keep: written over, it changes nothing.
func TestNothingIsKept(t *testing.T) {
	source := roomy(pairs(1, 10, far, 20, 1, 11), spoiltPair)
	s := plain
	s.Source = source
	r := newReal(t, s)
	if !untouched(source, pairs(1, 10, far, 20, 1, 11), spoiltPair) {
		t.Errorf("rule 3: New changed %v", source)
	}
	writeOver(source, spoiltPair)
	for key, value := range map[int]int{1: 11, far: 20} {
		if told, err := r.Get(nil, key); err != api.OK || told.Value != value {
			t.Errorf("rule 3: Get(%d): %+v, %v", key, told, err)
		}
	}
	list := roomy(pairs(2, 2, 3, 3, 2, 4), spoiltPair)
	if told, err := r.Many(nil, list); err != api.OK || told.Many != 3 || !untouched(list, pairs(2, 2, 3, 3, 2, 4), spoiltPair) {
		t.Errorf("rule 3: Many: %+v, %v, %v", told, err, list)
	}
	writeOver(list, spoiltPair)
	for key, value := range map[int]int{1: 11, 2: 4, 3: 3} {
		if told, err := r.Get(nil, key); err != api.OK || told.Value != value {
			t.Errorf("rule 3: Get(%d): %+v, %v", key, told, err)
		}
	}
}

// What is told is new memory: written over, it changes neither the store nor another answer.
func TestAnswersAreNewMemory(t *testing.T) {
	r := after(t, snap(0), name(3, 0), snap(0), name(5, 0), put(1, 5), get(far))
	want := r.state()
	rows, a, b := r.calls.Rows(), r.Names(nil), r.Names(nil)
	writeOver(a, spoiltPair)
	if !slices.Equal(b, pairs(3, 1, 5, 2)) || !slices.Equal(r.Names(nil), b) {
		t.Errorf("rule 3: Names: %v, %v", b, r.Names(nil))
	}
	if x := r.calls.Do(nil, names()); !slices.Equal(x.Pairs, b) {
		t.Errorf("rule 3: Names: %+v", x)
	} else {
		writeOver(x.Pairs, spoiltPair)
	}
	kept := plainRows(rows)
	for i := range rows {
		again := r.calls.Rows()
		writeOver(again[i], spoilt)
		if !sameLists(rows, kept) || !sameLists(r.calls.Rows(), kept) {
			t.Errorf("rule 3: Rows: %v, %v", rows, r.calls.Rows())
		}
	}
	if told, err := r.PeekNamed(nil, 3, 1); err != api.OK || told.Value != 10 || !r.state().same(want) {
		t.Errorf("rule 3: %+v, %v, %+v", told, err, r.state())
	}
}

// Two runs of one setup, one behind the other, don't hang on one another; nor does a Play on a store that is there.
func TestTwoRuns(t *testing.T) {
	r := after(t, put(1, 5), snap(0), name(3, 0))
	was := r.state()
	c := work([]api.Call{snap(0), name(3, 0), put(1, 6), get(1), names()}, []api.Call{get(far), drop(far)})
	want, left := wantModel(t, "P18.8: two runs", mixed{s: plain, c: c})
	for range 3 {
		wantPlay(t, "P18.8: two runs", plain, c, want, left.rows())
	}
	if !r.state().same(was) {
		t.Errorf("P18.1: %+v, want %+v", r.state(), was)
	}
}
