package board_test

import (
	"fmt"
	"runtime"
	"slices"
	"sort"
	"sync/atomic"
	"testing"

	"skein/api"
	"skein/board"
	"skein/crew"
)

// ended: a call that ended, who did it, and its answer.
type ended struct {
	worker int
	call   api.Call
	answer api.Answer
}

// allEnded: the calls that ended, in the order of their last lines: those are the lines that P9.4 names.
func allEnded(c api.Case, run api.Run) []ended {
	var all []ended
	for k, answers := range run.Answers {
		for i, a := range answers {
			all = append(all, ended{k, c.Work[k][i], a})
		}
	}
	sort.Slice(all, func(i, j int) bool { return all[i].answer.End < all[j].answer.End })
	return all
}

// changes: whether a call that ended published a table: one that does ends with a second line.
func (e ended) changes() bool { return e.answer.Own%2 == 0 }

// plain: a plain map, and what each call makes of it, all at once.
type plain map[int]int

// do tells a call's answer, and whether it changed something.
func (p plain) do(c api.Call) (api.Answer, bool) {
	has, there := p[c.A]
	switch {
	case c.Kind == 5:
		return api.Answer{Pairs: p.pairs()}, false
	case c.Kind == 6:
		return api.Answer{N: len(p)}, false
	case !there && (c.Kind == 1 || c.Kind == 3 || c.Kind == 4):
		return api.Answer{Err: api.ErrBoardNone}, false
	case !there && len(p) == 64:
		return api.Answer{Err: api.ErrBoardFull}, false
	case c.Kind == 1:
		return api.Answer{N: has}, false
	case c.Kind == 4:
		delete(p, c.A)
		return api.Answer{N: has}, true
	case c.Kind == 3 && has == c.B:
		p[c.A] = c.C
		return api.Answer{Ok: true}, c.C != has
	case c.Kind == 3, there && (c.Kind == 7 || has == c.B):
		return api.Answer{}, false
	}
	p[c.A] = c.B
	return api.Answer{Ok: true}, true
}

func (p plain) pairs() []api.Pair {
	var list []api.Pair
	for name, value := range p {
		list = append(list, is(name, value))
	}
	sort.Slice(list, func(i, j int) bool { return list[i].Key < list[j].Key })
	return list
}

// rising tells whether a table's names rise.
func rising(table []api.Pair) bool {
	for i := 1; i < len(table); i++ {
		if table[i-1].Key >= table[i].Key {
			return false
		}
	}
	return true
}

// checkRounds: each round wants a table that somebody else published meanwhile; Get, All and Count do one line.
func checkRounds(t *testing.T, x mixed, all []ended) {
	t.Helper()
	for _, e := range all {
		reads := e.call.Kind == 1 || e.call.Kind == 5 || e.call.Kind == 6
		published := 0
		for _, o := range all {
			if o.worker != e.worker && o.changes() && o.answer.End > e.answer.Begin && o.answer.End < e.answer.End {
				published++
			}
		}
		if rounds := (e.answer.Own - 1) / 2; rounds > published || reads && e.answer.Own != 1 {
			t.Fatalf("P9.5: %+v: %+v went round %d times, %d tables", x, e, rounds, published)
		}
	}
}

// check holds what a board is for against a Play whose calls can all be.
func check(t *testing.T, x mixed) {
	t.Helper()
	run, table, err := board.Play(x.start, x.c)
	if err != api.OK {
		t.Fatalf("P9.3: %+v: %v", x, err)
	}
	all := allEnded(x.c, run)
	p := plain{}
	for _, pair := range x.start {
		p[pair.Key] = pair.Value
	}
	for _, e := range all {
		want, changes := p.do(e.call)
		if !sameAnswer(e.answer, want) || e.changes() != changes || !rising(e.answer.Pairs) {
			t.Fatalf("P9.4: %+v: step %d: %+v, want %+v, changes %v", x, e.answer.End, e, want, changes)
		}
	}
	if !slices.Equal(table, p.pairs()) || !rising(table) {
		t.Fatalf("P9.4: %+v: the table %v, want %v", x, table, p.pairs())
	}
	checkRounds(t, x, all)
}

func TestUsesInMixedRuns(t *testing.T) {
	mixedPlays(7000, false, func(x mixed) { check(t, x) })
}

// Every order of the lines of few calls, with halts too.
func TestUsesInEveryOrder(t *testing.T) {
	starts := [][]api.Pair{nil, {is(1, 1)}, full(63)}
	for _, calls := range [][][]api.Call{
		{{put(1, 1), put(1, 2)}, {put(1, 2), put(1, 1)}},
		{{add(1, 1), drop(1)}, {add(1, 1), drop(1)}},
		{{swap(1, 1, 2), add(3, 3)}, {put(1, 1), drop(1), all()}},
		{{add(1, 1), get(3), add(3, 3)}, {add(3, 3), count(), drop(3)}},
	} {
		for _, start := range starts {
			orders(2, 8, func(turns []int) { check(t, mixed{start, api.Case{Work: calls, Turns: turns}}) })
			orders(2, 5, func(turns []int) {
				for halt := 1; halt <= 5; halt++ {
					check(t, mixed{start, api.Case{Work: calls, Turns: turns, Halt: []int{halt}}})
					check(t, mixed{start, api.Case{Work: calls, Turns: turns, Halt: []int{0, halt}}})
					check(t, mixed{start, api.Case{Work: calls, Turns: turns, Until: 2 * halt}})
				}
			})
		}
	}
	calls := [][]api.Call{{put(1, 5), drop(1)}, {add(1, 6), swap(1, 6, 7)}, {swap(1, 5, 6), all()}}
	orders(3, 7, func(turns []int) {
		check(t, mixed{nil, api.Case{Work: calls, Turns: turns}})
		check(t, mixed{nil, api.Case{Work: calls, Turns: turns, Halt: []int{3, 0, 1}}})
	})
}

// Get, All and Count do one line though all the others publish ahead of and behind it.
func TestReadersDoOneLine(t *testing.T) {
	c := api.Case{}
	for k := range api.MaxWorkers {
		var calls []api.Call
		for i := range api.MaxCalls {
			switch {
			case k > 2:
				calls = append(calls, put(k, i))
			default:
				calls = append(calls, []api.Call{get(3 + i%5), all(), count()}[k])
			}
		}
		c.Work = append(c.Work, calls)
	}
	for turn := range 600 {
		c.Turns = append(c.Turns, turn%7*turn)
	}
	run, _ := wantModel(t, "P9.5: readers", nil, c)
	for k := range 3 {
		if len(run.Answers[k]) != api.MaxCalls {
			t.Fatalf("P9.5: reader %d: %d answers", k, len(run.Answers[k]))
		}
		for _, a := range run.Answers[k] {
			if a.Own != 1 || a.Begin != a.End {
				t.Errorf("P9.5: a reader's call: %+v", a)
			}
		}
	}
}

// loose does f by so many workers, without turns; all have come when they begin. What f tells is amiss.
func loose(t *testing.T, promise string, workers int, f func(w *crew.Worker) []int) {
	t.Helper()
	var come atomic.Int64
	c := api.Case{Work: slices.Repeat([][]api.Call{{{}}}, workers)}
	answers, err := crew.Loose(c, does(func(w *crew.Worker, _ api.Call) api.Answer {
		come.Add(1)
		for come.Load() < int64(workers) {
			runtime.Gosched()
		}
		return api.Answer{Ints: f(w)}
	}))
	if err != api.OK || len(answers) != workers {
		t.Fatalf("Loose: %v, %v", answers, err)
	}
	for k, list := range answers {
		if len(list) != 1 || list[0].Err != api.OK || len(list[0].Ints) > 0 {
			t.Fatalf("%s: worker %d finds %+v", promise, k, list)
		}
	}
}

const often = 2000

// Each worker has names of its own: whatever the others do, what it put is there.
func TestLooseOwnNames(t *testing.T) {
	b := newBoard(t)
	loose(t, "P9.4: its own names", 8, func(w *crew.Worker) []int {
		mine, r := plain{}, mixer(w.Number())
		for round := range often {
			c := r.call([]int{w.Number(), w.Number() + 8, w.Number() + 16}, false)
			if c.Kind == 5 || c.Kind == 6 {
				c.Kind = 1
			}
			if want, _ := mine.do(c); !sameAnswer(byName(b)(w, c), want) {
				return []int{round, c.Kind}
			}
		}
		for k := range 3 {
			b.Put(w, w.Number()+8*k, k)
		}
		return nil
	})
	table := b.All(nil)
	if len(table) != 24 || !rising(table) {
		t.Fatalf("P9.4: the table is %v", table)
	}
	for i, p := range table {
		if p != is(i, i/8) {
			t.Errorf("P9.4: %v, want %v", p, is(i, i/8))
		}
	}
}

// All of them count one number up by Swaps: nothing is lost.
func TestLooseSwapsAreNotLost(t *testing.T) {
	b := newBoard(t, is(5, 0), is(9, 0))
	loose(t, "P9.4: Swaps", 8, func(w *crew.Worker) []int {
		for round := range often {
			for {
				v, err := b.Get(w, 5)
				if err != api.OK {
					return []int{round, int(err)}
				}
				if ok, _ := b.Swap(w, 5, v, v+1); ok {
					break
				}
			}
			b.Put(w, 9, round)
		}
		return nil
	})
	if v, err := b.Get(nil, 5); v != 8*often || err != api.OK {
		t.Errorf("P9.4: %d, %v, want %d", v, err, 8*often)
	}
}

// A name is a lock: who added it has it till he drops it; held is written without another one, so two of them would be a race too.
func TestLooseAddAndDrop(t *testing.T) {
	b := newBoard(t)
	held := [3]int{}
	loose(t, "P9.4: Add and Drop", 8, func(w *crew.Worker) []int {
		r := mixer(w.Number())
		for round := range often {
			name := r.below(3)
			ok, err := b.Add(w, name, w.Number())
			if err != api.OK {
				return []int{round, int(err)}
			}
			if !ok {
				runtime.Gosched() // where there is one processor, who has it must go on
				continue
			}
			held[name]++
			if v, err := b.Get(w, name); v != w.Number() || err != api.OK {
				return []int{round, v, int(err)}
			}
			if v, err := b.Drop(w, name); v != w.Number() || err != api.OK {
				return []int{round, v, int(err)}
			}
		}
		return nil
	})
	wantBoard(t, "P9.4: all are dropped", b)
	if held[0]+held[1]+held[2] < often {
		t.Errorf("P9.4: names were held %v times", held)
	}
}

// Of those who add the same names each is added by one worker, and of those who drop them dropped by one; the last room is taken once.
func TestLooseOnce(t *testing.T) {
	for range 100 {
		b := newBoard(t, full(44)...)
		var added, dropped, noRoom atomic.Int64
		loose(t, "P9.4: once", 8, func(w *crew.Worker) []int {
			for i := range 40 {
				ok, err := b.Add(w, 1001+i, w.Number())
				switch {
				case ok && err == api.OK:
					added.Add(1)
				case !ok && err == api.ErrBoardFull:
					noRoom.Add(1)
				case ok || err != api.OK:
					return []int{i, int(err)}
				}
			}
			return nil
		})
		table := b.All(nil)
		if added.Load() != 20 || noRoom.Load() != 8*20 || len(table) != 64 || !rising(table) {
			t.Fatalf("P9.4: %d were added, %d found no room: %v", added.Load(), noRoom.Load(), table)
		}
		loose(t, "P9.4: once", 8, func(w *crew.Worker) []int {
			for i := range 40 {
				if _, err := b.Drop(w, 1001+i); err == api.OK {
					dropped.Add(1)
				}
			}
			return nil
		})
		wantBoard(t, "P9.4: all that were added are dropped", b, full(44)...)
		if dropped.Load() != 20 {
			t.Fatalf("P9.4: %d were dropped", dropped.Load())
		}
	}
}

// One worker changes the board, and keeps what the table is behind each change; what others see without turns was there at some moment, never goes back, and stays as it was told.
func TestLooseTablesAreMoments(t *testing.T) {
	const others = 3
	for seed := range 10 {
		b := newBoard(t, full(3)...)
		moments := []string{fmt.Sprint(full(3))}
		var seen [others + 1][]string
		var over atomic.Bool
		loose(t, "P9.6", others+1, func(w *crew.Worker) []int {
			if k := w.Number(); k > 0 {
				for !over.Load() {
					told := b.All(w)
					was := fmt.Sprint(told)
					runtime.Gosched() // where there is one processor, who changes the board must have it too
					if fmt.Sprint(told) != was {
						return []int{len(seen[k])}
					}
					seen[k] = append(seen[k], was)
				}
				return nil
			}
			moments = append(moments, changeOften(b, w, mixer(seed))...)
			over.Store(true)
			return nil
		})
		for k, list := range seen {
			at := 0
			for _, told := range list {
				from := at
				for at < len(moments) && moments[at] != told {
					at++
				}
				if at == len(moments) {
					t.Fatalf("P9.4: worker %d sees %s, which isn't there behind moment %d (%s)", k, told, from, moments[from])
				}
			}
		}
	}
}

// changeOften changes the board by one worker, and tells the table behind each call.
func changeOften(b *board.Board, w *crew.Worker, r mixer) []string {
	var moments []string
	m := newModel(full(3))
	for i := range often {
		if i%64 == 0 {
			runtime.Gosched() // and so must those that look
		}
		c := r.call([]int{0, 1, 2, 4, 7, maxKey}, false)
		byName(b)(w, c)
		m.alone(c)
		moments = append(moments, fmt.Sprint(m.table()))
	}
	return moments
}
