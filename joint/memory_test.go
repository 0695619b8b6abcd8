package joint_test

import (
	"slices"
	"testing"

	"skein/api"
	"skein/crew"
	"skein/joint"
)

// writeOver writes over a list and its spare room.
func writeOver(list []int) {
	list = list[:cap(list)]
	for i := range list {
		list[i] = -8888
	}
}

// roomy copies a list into one with spare room, in which something stands.
func roomy[T any](list []T, spare ...T) []T {
	room := append(slices.Clone(list), spare...)
	return room[:len(list)]
}

// untouched tells whether a roomy list is as it was.
func untouched[T comparable](list, was []T, spare ...T) bool {
	return slices.Equal(list[:len(was)+len(spare)], slices.Concat(was, spare))
}

// New's list isn't kept, nor changed, nor is its spare room.
func TestNewKeepsToItsOwnMemory(t *testing.T) {
	for _, n := range []int{2, 3, 8, 63, 64} {
		first := roomy(firsts(n), 71, 72, 73)
		x, _ := joint.New(first)
		x.Move(nil, 0, 1, 4)
		x.Look(nil)
		if !untouched(first, firsts(n), 71, 72, 73) {
			t.Errorf("rule 3: New's list has become %v", first)
		}
		writeOver(first)
		want := firsts(n)
		want[0], want[1] = want[0]-4, want[1]+4
		wantValues(t, "rule 3: behind New's list", x, want)
	}
}

// A Change's list isn't kept, nor changed, nor put in order, nor is its spare room; also where it is refused, or comes again.
func TestChangeKeepsToItsOwnMemory(t *testing.T) {
	spare := []api.Entry{to(0, 5, 1), to(-1, -2, -3), to(1, 7, 7)}
	for _, l := range [][]api.Entry{
		{to(0, 5, 6)}, {to(2, 9, 8), to(0, 5, 6), to(1, 7, 8)}, {to(2, 9, 8), to(1, 7, 8), to(0, 5, 6)}, {to(2, 9, 8), to(1, 6, 8), to(0, 5, 6)},
		{to(2, 9, 8), to(2, 9, 8), to(0, 5, 6)}, {to(2, 9, -1), to(0, 5, 6)}, {to(3, 9, 1), to(0, 5, 6)},
	} {
		for _, work := range []api.Case{{Work: [][]api.Call{{{}}}}, {Work: [][]api.Call{{{}}, {{Kind: 1}}}, Turns: []int{0, 0, 0, 1, 1, 1, 1, 1, 1}}} {
			b := newReal(t, []int{5, 7, 9})
			given := roomy(l, spare...)
			_, err := crew.Run(work, does(func(w *crew.Worker, c api.Call) api.Answer {
				if c.Kind == 1 {
					b.all[0].Change(w, []api.Entry{to(0, 5, 5)})
					return api.Answer{}
				}
				_, err := b.all[0].Change(w, given)
				return api.Answer{Err: err}
			}))
			if err != api.OK || !untouched(given, l, spare...) {
				t.Errorf("rule 3: a Change's list %v has become %v", l, given[:len(l)+3])
			}
		}
	}
}

// A Change that is left under way goes on by what it was given, whatever is done with the list behind its call.
func TestDescriptorsKeepToTheirOwnMemory(t *testing.T) {
	for until := 4; until <= 9; until++ {
		b := newReal(t, []int{5, 7})
		given := []api.Entry{to(1, 7, 8), to(0, 5, 6)}
		run, err := crew.Run(api.Case{Work: [][]api.Call{{{}}}, Until: until}, does(func(w *crew.Worker, _ api.Call) api.Answer {
			b.all[0].Change(w, given)
			return api.Answer{}
		}))
		if err != api.OK || !run.Cut {
			t.Fatalf("%+v, %v", run, err)
		}
		clear(given)
		wantValues(t, "rule 3: under way", b.all[0], []int{6, 8})
	}
}

// What a Look tells is new memory each time, its spare room too.
func TestLookIsNewMemory(t *testing.T) {
	for _, n := range []int{1, 2, 3, 5, 8, 33, 64} {
		x := newReal(t, firsts(n)).all[0]
		a, _ := x.Look(nil)
		b, _ := x.Look(nil)
		writeOver(a)
		if c, err := x.Look(nil); err != api.OK || !slices.Equal(b, firsts(n)) || !slices.Equal(c, firsts(n)) {
			t.Errorf("rule 3: Looks share memory: %v, %v, %v", b, c, err)
		}
		wantValues(t, "rule 3: behind Looks", x, firsts(n))
	}
	// So it is of one that others have helped, and may come back to.
	b := newReal(t, []int{5, 7})
	kept := map[int][]int{}
	c := api.Case{Work: [][]api.Call{{{}, {}}, {{Kind: 1}, {}}}, Turns: append(make([]int, 4), slices.Repeat([]int{1, 0}, 30)...)}
	crew.Run(c, does(func(w *crew.Worker, c api.Call) api.Answer {
		l, err := b.all[0].Look(w)
		if c.Kind == 1 {
			b.all[0].Read(w, 0)
		}
		kept[w.Number()] = append(kept[w.Number()], slices.Clone(l)...)
		writeOver(l)
		return api.Answer{Err: err}
	}))
	if want := []int{5, 7, 5, 7}; !slices.Equal(kept[0], want) || !slices.Equal(kept[1], want) {
		t.Errorf("rule 3: Looks side by side: %v", kept)
	}
}

func TestPlayKeepsToItsOwnMemory(t *testing.T) {
	mixedRuns(6, 600, manners{wild: true}, func(x mixed) {
		c, first := plainCase(x.c), roomy(x.first, 71, 72, 73)
		c.Turns, c.Halt = roomy(c.Turns, 71, 72), roomy(c.Halt, 71, 72)
		for k := range c.Work {
			for i, call := range c.Work[k] {
				c.Work[k][i].Pairs = roomy(call.Pairs, api.Pair{Key: 71, Value: 72})
			}
		}
		run, values, _ := joint.Play(first, c)
		if !untouched(c.Turns, x.c.Turns, 71, 72) || !untouched(c.Halt, x.c.Halt, 71, 72) || !untouched(first, x.first, 71, 72, 73) {
			t.Fatalf("rule 3: Play changed what was handed in: %v, %+v", first, c)
		}
		for k := range c.Work {
			for i, call := range c.Work[k] {
				if was := x.c.Work[k][i]; call.Kind != was.Kind || call.A != was.A || call.B != was.B || call.C != was.C || !untouched(call.Pairs, was.Pairs, api.Pair{Key: 71, Value: 72}) {
					t.Fatalf("rule 3: Play changed a call: %+v, was %+v", call, was)
				}
				clear(c.Work[k][i].Pairs[:cap(call.Pairs)])
				c.Work[k][i] = api.Call{Kind: -99}
			}
		}
		keptRun, kept := plainRun(run), slices.Clone(values)
		writeOver(first)
		writeOver(c.Turns)
		writeOver(c.Halt)
		if !sameRun(run, keptRun) || !slices.Equal(values, kept) {
			t.Fatalf("rule 3: an answer hangs on what was handed in: %+v", x)
		}
		writeOver(values)
		if !sameRun(run, keptRun) {
			t.Fatalf("rule 3: two lists of an answer share memory: %+v", x)
		}
		for k, answers := range run.Answers {
			for i := range answers {
				writeOver(answers[i].Ints)
				answers[i].Ints = nil
				keptRun.Answers[k][i].Ints = nil
				if !sameRun(run, keptRun) {
					t.Fatalf("rule 3: two lists of an answer share memory: %+v", x)
				}
			}
		}
		wantModel(t, "rule 3: behind answers that were written over", x.first, x.c)
	})
}
