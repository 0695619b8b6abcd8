package scan_test

import (
	"slices"
	"testing"

	"skein/api"
	"skein/scan"
)

// roomy copies a list into one with spare room, in which something stands.
func roomy[T any](list []T, more T) []T {
	room := append(slices.Clone(list), more, more, more)
	return room[:len(list)]
}

// untouched tells whether a roomy list is as it was.
func untouched[T comparable](list, was []T, more T) bool {
	return slices.Equal(list, was) && slices.Equal(list[:len(list)+3][len(list):], []T{more, more, more})
}

// writeOver writes into a list and all the spare room behind it.
func writeOver[T any](list []T, x T) {
	list = list[:cap(list)]
	for i := range list {
		list[i] = x
	}
}

func plainRows(rows [][]int) [][]int {
	var list [][]int
	for _, row := range rows {
		list = append(list, slices.Clone(row))
	}
	return list
}

// spoilt: a number and a pair that nothing tells.
const spoilt = -99

var spoiltPair = api.Pair{Key: spoilt, Value: spoilt}

// What a Play is handed in is neither changed nor kept; no two lists of what it answers share memory.
func TestPlayKeepsToItsOwnMemory(t *testing.T) {
	told := map[string]int{}
	mixedPlays(500, manners{wild: true}, func(x mixed) {
		s, c := x.s, plainCase(x.c)
		s.Source = roomy(s.Source, spoiltPair)
		c.Turns, c.Halt = roomy(c.Turns, 71), roomy(c.Halt, 71)
		for k := range c.Work {
			for i := range c.Work[k] {
				c.Work[k][i].Pairs = roomy(c.Work[k][i].Pairs, spoiltPair)
			}
		}
		run, rows, _ := scan.Play(s, c)
		if !untouched(c.Turns, x.c.Turns, 71) || !untouched(c.Halt, x.c.Halt, 71) || !untouched(s.Source, x.s.Source, spoiltPair) {
			t.Fatalf("rule 3: Play changed what was handed in: %+v, %+v", s, c)
		}
		keptRun, kept := plainRun(run), plainRows(rows)
		for k := range c.Work {
			for i := range c.Work[k] {
				is, was := c.Work[k][i], x.c.Work[k][i]
				if is.Kind != was.Kind || is.A != was.A || is.B != was.B || is.C != was.C || !untouched(is.Pairs, was.Pairs, spoiltPair) {
					t.Fatalf("rule 3: Play changed what was handed in: %+v", is)
				}
				writeOver(is.Pairs, spoiltPair)
				c.Work[k][i] = api.Call{Kind: spoilt}
			}
		}
		writeOver(c.Turns, spoilt)
		writeOver(c.Halt, spoilt)
		writeOver(s.Source, spoiltPair)
		if !sameRun(run, keptRun) || !sameLists(rows, kept) {
			t.Fatalf("rule 3: an answer hangs on what was handed in: %+v", x)
		}
		for i := range rows {
			writeOver(rows[i], spoilt)
			rows[i], kept[i] = nil, nil
			if !sameLists(rows, kept) || !sameRun(run, keptRun) {
				t.Fatalf("rule 3: two rows share memory: %+v", x)
			}
		}
		for k, answers := range run.Answers {
			for i := range answers {
				told["ints"] += len(answers[i].Ints)
				told["pairs"] += len(answers[i].Pairs)
				writeOver(answers[i].Ints, spoilt)
				writeOver(answers[i].Pairs, spoiltPair)
				run.Answers[k][i], keptRun.Answers[k][i] = api.Answer{}, api.Answer{}
				if !sameRun(run, keptRun) {
					t.Fatalf("rule 3: two answers share memory: %+v", x)
				}
			}
		}
	})
	if told["ints"] < 200 || told["pairs"] < 500 {
		t.Errorf("the cases are too plain: %v", told)
	}
}

// What a Page tells is new memory, its spare room too: written over, it changes neither the map nor another answer.
func TestPagesAreNewMemory(t *testing.T) {
	r, x := crowd(t, 50)
	was := r.state()
	for _, n := range []int{1, 2, 3, 7, 49, 50, 51, mostPage} {
		a, moreOfA, _ := scan.Page(r.Store, nil, x, -1, n)
		b, _, _ := scan.Page(r.Store, nil, x, -1, n)
		want := slices.Clone(a)
		writeOver(b, spoiltPair)
		c, moreOfC, _ := scan.Page(r.Store, nil, x, -1, n)
		if !slices.Equal(a, want) || !slices.Equal(c, want) || len(want) != min(n, 50) || moreOfA != moreOfC {
			t.Errorf("rule 3: Page(-1, %d): %v, %v, want %v", n, a, c, want)
		}
	}
	if !r.state().same(was) {
		t.Errorf("rule 3: %+v", r.state())
	}
}

// Two maps don't touch one another: what is done with the one, by whatever snapshots, isn't to be seen in the other one.
func TestTwoMaps(t *testing.T) {
	calls := []api.Call{
		snap(0), ranged(0, 0, mostKey), put(1, 5), snap(1), counted(1, 0, mostKey), differ(0, 1), paged(0, -1, 1), drop(far), trim(0), free(0), trim(1), ranged(1, 0, far), advance(), advance(), collect(),
		differ(1, 1), ranged(1, 0, mostKey), free(1),
	}
	m := newModel(plain)
	r, o := newReal(t, plain), newReal(t, plain)
	for i, c := range calls {
		o.by(t, put(3+i, i))
		o.by(t, snap(i%4))
		o.by(t, ranged(i%4, 0, mostKey))
		o.by(t, free((i+3)%4))
		want := m.alone(c)
		if a := r.by(t, c); !sameAnswer(a, want) || a.Own != want.Own {
			t.Fatalf("P19.6: %+v: %+v, want %+v", c, a, want)
		}
		x, err := r.calls.Register(nil, 0)
		if err == api.OK {
			totals, e := scan.Fan(r.Store, x, 2)
			list, f := gathered(scan.Range(r.Store, nil, x, 0, mostKey), 0)
			if want := totalsOf(plainly(list), 2); e != api.OK || f != api.OK || !slices.Equal(totals, want) {
				t.Fatalf("P19.5: %v, %v, want %v", totals, e, want)
			}
			m.alone(ranged(0, 0, mostKey)) // what isn't there yet is loaded
		}
		if !r.state().same(m.told()) {
			t.Fatalf("P19.6: behind %+v: %+v, want %+v", c, r.state(), m.told())
		}
	}
}

// Two Plays, one behind the other, don't hang on one another, nor on a map that is there.
func TestTwoPlays(t *testing.T) {
	r := after(t, put(1, 5), snap(0), ranged(0, 0, mostKey))
	was := r.state()
	c := work([]api.Call{snap(0), put(1, 6), snap(1), differ(0, 1), ranged(1, 0, mostKey)}, []api.Call{get(far), drop(far), snap(2), paged(2, -1, 1)})
	want, left := wantModel(t, "P19.6: two Plays", mixed{s: plain, c: c})
	for range 3 {
		wantPlay(t, "P19.6: two Plays", plain, c, want, left.rows())
	}
	if !r.state().same(was) {
		t.Errorf("P19.6: %+v, want %+v", r.state(), was)
	}
}
