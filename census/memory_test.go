package census_test

import (
	"slices"
	"testing"

	"skein/api"
	"skein/census"
	"skein/crew"
)

// writeOver writes over a list and its spare room.
func writeOver(list []int) {
	list = list[:cap(list)]
	for i := range list {
		list[i] = -8888
	}
}

// roomy copies a list into one with spare room, in which something stands.
func roomy(list []int) []int {
	room := append(slices.Clone(list), 71, 72, 73)
	return room[:len(list)]
}

// untouched tells whether a roomy list is as it was.
func untouched(list, was []int) bool {
	return slices.Equal(list, was) && slices.Equal(list[:len(list)+3][len(list):], []int{71, 72, 73})
}

func cloned(s api.Seen) api.Seen {
	return api.Seen{Values: slices.Clone(s.Values), Numbers: slices.Clone(s.Numbers)}
}

// New's list isn't kept, nor changed, nor is its spare room.
func TestNewKeepsToItsOwnMemory(t *testing.T) {
	for n := 1; n <= 8; n++ {
		first := roomy(firsts(n))
		c, _ := census.New(first)
		for range 3 {
			c.Update(nil, 4)
			c.Scan(nil)
		}
		if !untouched(first, firsts(n)) {
			t.Errorf("rule 3: New's list has become %v", first)
		}
		writeOver(first)
		want := api.Seen{Values: firsts(n), Numbers: make([]int, n)}
		want.Values[0], want.Numbers[0] = 4, 3
		if got := c.Scan(nil); !sameSeen(got, want) {
			t.Errorf("rule 3: a census hangs on New's list: %v", got)
		}
	}
}

// The lists of an answer share no memory with one another, nor with those of another answer, nor with the census.
func TestSeenIsNewMemory(t *testing.T) {
	for n := 1; n <= 8; n++ {
		c, _ := census.New(firsts(n))
		c.Update(nil, 4)
		want := api.Seen{Values: firsts(n), Numbers: make([]int, n)}
		want.Values[0], want.Numbers[0] = 4, 1
		for _, tell := range []func() api.Seen{func() api.Seen { return c.Scan(nil) }, c.Words} {
			a, b, z := tell(), tell(), c.Words()
			kept := cloned(a)
			writeOver(a.Values)
			if !slices.Equal(a.Numbers, kept.Numbers) || !sameSeen(b, kept) || !sameSeen(z, kept) {
				t.Errorf("rule 3: two answers share memory: %v, %v, %v", a, b, z)
			}
			writeOver(a.Numbers)
			if !sameSeen(b, want) || !sameSeen(z, want) || !sameSeen(c.Scan(nil), want) || !sameSeen(c.Words(), want) || c.Total(nil) != sumOf(want.Values) {
				t.Errorf("rule 3: two answers share memory: %v, %v, %v", b, z, c.Scan(nil))
			}
		}
	}
}

func sumOf(list []int) int {
	sum := 0
	for _, n := range list {
		sum += n
	}
	return sum
}

// keeper answers as a census does, keeps what its Scans told, and writes over that of one worker at once.
type keeper struct {
	real
	over int
	kept map[int][]api.Seen // by worker
}

func (b keeper) Do(w *crew.Worker, c api.Call) api.Answer {
	if c.Kind != 2 {
		return b.real.Do(w, c)
	}
	s := b.real[0].Scan(w)
	b.kept[w.Number()] = append(b.kept[w.Number()], cloned(s))
	if w.Number() == b.over {
		writeOver(s.Values)
		writeOver(s.Numbers)
	}
	return api.Answer{}
}

// Two Scans that are told the same word's view; the first one's answer is written over, and the word is stored again, ahead of the other one's last line.
func TestViewsAreTheirOwn(t *testing.T) {
	calls := work([]api.Call{update(1), update(2), update(3)}, []api.Call{update(11)}, []api.Call{scan(), scan()}, []api.Call{scan()})
	for _, x := range []struct {
		name   string
		lines  []int
		second []api.Seen // of worker 3
	}{
		{"the answer is written over", []int{2, 2, 3, 2, 0, 5, 2, 2, 3, 2, 0, 5, 2, 2, 3, 2}, []api.Seen{{Values: []int{1, 7}, Numbers: []int{1, 0}}}},
		{"the word is stored again", []int{2, 2, 3, 2, 0, 5, 2, 2, 3, 2, 0, 5, 2, 2, 3, 1, 0, 5, 1, 5, 3, 1}, []api.Seen{{Values: []int{1, 7}, Numbers: []int{1, 0}}}},
		{"the view of the next store", []int{2, 2, 3, 2, 0, 5, 2, 2, 3, 2, 0, 5, 2, 2, 0, 5, 3, 2}, []api.Seen{{Values: []int{2, 7}, Numbers: []int{2, 0}}}},
		{"the view of an Update behind another word's", []int{2, 2, 3, 2, 0, 5, 2, 2, 3, 2, 1, 5, 0, 5, 2, 2, 3, 2}, []api.Seen{{Values: []int{1, 11}, Numbers: []int{1, 1}}}},
	} {
		b := keeper{newReal(t, []int{5, 7}), 2, map[int][]api.Seen{}}
		_, err := crew.Run(stepwise(calls, x.lines...), b)
		if err != api.OK || len(b.kept[2]) != 1 || !slices.EqualFunc(b.kept[3], x.second, sameSeen) {
			t.Errorf("rule 3: %s: %+v, want %v", x.name, b.kept, x.second)
		}
	}
}

// A view that one worker's Scan is told, and that another one stores as its own, having been told it as well: what is done with the answer touches neither.
func TestViewsThatAreHandedOn(t *testing.T) {
	// Worker 2's Scan is told word 0's view, and so is worker 1's Update; what that one stores is told to worker 3.
	b := keeper{newReal(t, []int{5, 7}), 2, map[int][]api.Seen{}}
	calls := work([]api.Call{update(1), update(2)}, []api.Call{update(10), update(11)}, []api.Call{scan()}, []api.Call{scan()})
	_, err := crew.Run(stepwise(calls,
		3, 2, 1, 5, 3, 2, // word 1 has moved in worker 3's Scan
		2, 2, 1, 2, 0, 5, 2, 2, 1, 2, 0, 5, 2, 2, // worker 2 is told what word 0 saw, and writes it over
		1, 3, // worker 1 is told the same, and stores it
		3, 2,
	), b)
	want := api.Seen{Values: []int{1, 10}, Numbers: []int{1, 1}}
	if err != api.OK || len(b.kept[2]) != 1 || !sameSeen(b.kept[2][0], want) || len(b.kept[3]) != 1 || !sameSeen(b.kept[3][0], want) {
		t.Errorf("rule 3: a view that is handed on: %+v, want %v", b.kept, want)
	}
}

func TestPlayKeepsToItsOwnMemory(t *testing.T) {
	mixedRuns(6, 600, manners{wild: true}, func(x mixed) {
		c, first := plainCase(x.c), roomy(x.first)
		c.Turns, c.Halt = roomy(c.Turns), roomy(c.Halt)
		run, words, _ := census.Play(first, c)
		if !untouched(c.Turns, x.c.Turns) || !untouched(c.Halt, x.c.Halt) || !untouched(first, x.first) {
			t.Fatalf("rule 3: Play changed what was handed in: %v, %+v", first, c)
		}
		for k := range c.Work {
			for i, call := range c.Work[k] {
				if was := x.c.Work[k][i]; call.Kind != was.Kind || call.A != was.A || call.B != was.B || call.C != was.C {
					t.Fatalf("rule 3: Play changed a call: %+v, was %+v", call, was)
				}
				c.Work[k][i] = api.Call{Kind: -99}
			}
		}
		keptRun, kept := plainRun(run), cloned(words)
		writeOver(first)
		writeOver(c.Turns)
		writeOver(c.Halt)
		if !sameRun(run, keptRun) || !sameSeen(words, kept) {
			t.Fatalf("rule 3: an answer hangs on what was handed in: %+v", x)
		}
		writeOver(words.Values)
		if !slices.Equal(words.Numbers, kept.Numbers) || !sameRun(run, keptRun) {
			t.Fatalf("rule 3: two lists of an answer share memory: %+v", x)
		}
		writeOver(words.Numbers)
		for k, answers := range run.Answers {
			for i := range answers {
				writeOver(answers[i].Ints)
				answers[i].Ints = nil
				keptRun.Answers[k][i].Ints = nil
				if !sameRun(run, keptRun) {
					t.Fatalf("rule 3: two lists of an answer share memory: %+v", x)
				}
			}
		}
		wantModel(t, "rule 3: behind answers that were written over", x.first, x.c)
	})
}
