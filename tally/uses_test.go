package tally_test

import (
	"slices"
	"sort"
	"testing"

	"skein/api"
	"skein/crew"
)

// ended: a call that ended, who did it, and its answer.
type ended struct {
	worker int
	call   api.Call
	answer api.Answer
}

// allEnded: the calls that ended, in the order of their last lines.
func allEnded(c api.Case, run api.Run) []ended {
	var all []ended
	for k, answers := range run.Answers {
		for i, a := range answers {
			all = append(all, ended{k, c.Work[k][i], a})
		}
	}
	sort.Slice(all, func(i, j int) bool { return all[i].answer.End < all[j].answer.End })
	return all
}

// checkCounter holds P5.5 against a run: its sums lie between only if nothing below 0 is added.
func checkCounter(t *testing.T, x mixed, all []ended, left api.Tally) {
	t.Helper()
	shards, between := make([]int, x.size.shards), true
	for _, e := range all {
		if e.call.Kind == 1 && e.answer.Err == api.OK {
			shards[e.call.A] += e.call.B
			between = between && e.call.B >= 0 && e.call.B < 1<<32
		}
	}
	if !slices.Equal(shards, left.Shards) {
		t.Fatalf("P5.5: %+v: shards %v, want %v", x, left.Shards, shards)
	}
	for _, sum := range all {
		if sum.call.Kind != 2 || !between {
			continue
		}
		low, high := 0, 0
		for _, e := range all {
			if e.call.Kind != 1 || e.answer.Err != api.OK {
				continue
			}
			if e.answer.End < sum.answer.Begin {
				low += e.call.B
			}
			if e.answer.Begin <= sum.answer.End {
				high += e.call.B
			}
		}
		if n := sum.answer.N; n < low || n > high {
			t.Fatalf("P5.5: %+v: a Sum of %d, want %d to %d", x, n, low, high)
		}
	}
}

// checkTicket holds P5.6 against a run.
func checkTicket(t *testing.T, x mixed, all []ended, left api.Tally) {
	t.Helper()
	var told []int
	for _, e := range all {
		if e.call.Kind == 3 {
			told = append(told, e.answer.N)
		}
	}
	for i, n := range told {
		if n != x.size.first+i {
			t.Fatalf("P5.6: %+v: tickets %v", x, told)
		}
	}
	if left.Ticket != x.size.first+len(told) {
		t.Fatalf("P5.6: %+v: the ticket is %d", x, left.Ticket)
	}
}

// checkMark holds P5.7 against a run.
func checkMark(t *testing.T, x mixed, all []ended, left api.Tally, mark int) {
	t.Helper()
	set, clears, since := false, false, 0
	for _, e := range all {
		clears = clears || e.call.Kind == 6
	}
	for _, e := range all {
		if e.call.A != mark || e.answer.Err != api.OK {
			continue
		}
		switch {
		case (e.call.Kind == 5 || e.call.Kind == 6) && e.answer.Ok:
			if set == (e.call.Kind == 5) {
				t.Fatalf("P5.7: %+v: mark %d: two by one another at step %d", x, mark, e.answer.End)
			}
			set, since = !set, e.answer.End
		case e.call.Kind == 7 && !clears:
			if set && e.answer.Begin > since && !e.answer.Ok || !set && e.answer.Ok {
				t.Fatalf("P5.7: %+v: mark %d: Test at step %d: %v", x, mark, e.answer.End, e.answer.Ok)
			}
		}
	}
	if slices.Contains(left.Marks, mark) != set {
		t.Fatalf("P5.7: %+v: mark %d is left among %v", x, mark, left.Marks)
	}
}

// checkRounds holds P5.8 against a run: each round wants a change of the word by somebody else.
func checkRounds(t *testing.T, x mixed, all []ended) {
	t.Helper()
	for _, e := range all {
		kind, own := e.call.Kind, e.answer.Own
		if e.answer.Err != api.OK || kind == 1 || kind == 3 || kind == 4 || kind == 7 {
			if own != 1 {
				t.Fatalf("P5.8: %+v: %+v: %d lines", x, e.call, own)
			}
			continue
		}
		if kind != 5 && kind != 6 {
			continue
		}
		if e.answer.Ok != (own%2 == 0) {
			t.Fatalf("P5.8: %+v: %+v: %+v", x, e.call, e.answer)
		}
		changes := 0
		for _, o := range all {
			within := o.answer.End > e.answer.Begin && o.answer.End < e.answer.End && o.worker != e.worker
			if within && (o.call.Kind == 5 || o.call.Kind == 6) && o.answer.Ok && o.call.A/32 == e.call.A/32 {
				changes++
			}
		}
		if rounds := (own - 1) / 2; rounds > changes {
			t.Fatalf("P5.8: %+v: %+v went round %d times, %d changes", x, e.call, rounds, changes)
		}
	}
}

// check holds what the calls are for against a Play.
func check(t *testing.T, x mixed) (api.Run, api.Tally) {
	t.Helper()
	run, left, err := play(x.size, x.c)
	if err != api.OK {
		t.Fatalf("P5.4: %+v: %v", x, err)
	}
	all := allEnded(x.c, run)
	checkCounter(t, x, all, left)
	checkTicket(t, x, all, left)
	for mark := range x.size.marks {
		checkMark(t, x, all, left, mark)
	}
	checkRounds(t, x, all)
	return run, left
}

func TestUsesInMixedRuns(t *testing.T) {
	mixedPlays(3000, false, func(x mixed) { check(t, x) })
	mixedPlays(1500, true, func(x mixed) { check(t, x) })
	mixedPlays(2000, false, func(x mixed) {
		for _, calls := range x.c.Work {
			for i := range calls {
				if calls[i].Kind == 6 {
					calls[i].Kind = 5
				}
			}
		}
		check(t, x)
	})
}

func TestUsesInEveryOrder(t *testing.T) {
	for _, calls := range [][][]api.Call{
		{{addTo(0, 1), addTo(1, 10)}, {sumUp(), addTo(0, 100)}, {addTo(1, 1000), sumUp()}},
		{{takeNext(), tellNow(), takeNext()}, {takeNext(), takeNext()}, {tellNow(), takeNext()}},
		{{setMark(3), testMark(3)}, {setMark(3), testMark(4)}, {setMark(4)}},
		{{setMark(31)}, {setMark(31), clearMark(31)}, {clearMark(31), setMark(32)}},
		{{setMark(0), clearMark(0)}, {setMark(1), setMark(0)}, {countMarks()}},
	} {
		orders(3, 7, func(turns []int) {
			check(t, mixed{size{2, 5, 40}, api.Case{Work: calls, Turns: turns}})
			check(t, mixed{size{2, 5, 40}, api.Case{Work: calls, Turns: turns, Halt: []int{2, 0, 1}}})
		})
	}
}

// Of many that set one mark just one is told that it did.
func TestJustOneSets(t *testing.T) {
	calls := [][]api.Call{{setMark(5)}, {setMark(5), setMark(5)}, {setMark(5), setMark(6)}}
	orders(3, 7, func(turns []int) {
		run, left, _ := play(size{1, 0, 7}, api.Case{Work: calls, Turns: turns})
		count := 0
		for _, e := range allEnded(api.Case{Work: calls}, run) {
			if e.call.A == 5 && e.answer.Ok {
				count++
			}
		}
		if count != 1 || !slices.Equal(left.Marks, []int{5, 6}) {
			t.Errorf("P5.7: turns %v: %d set it, %v", turns, count, left.Marks)
		}
	})
}

// loose does f by each of the most workers there may be, without turns.
func loose(t *testing.T, f func(w *crew.Worker) []int) [][]int {
	t.Helper()
	var c api.Case
	for range api.MaxWorkers {
		c.Work = append(c.Work, []api.Call{{}})
	}
	answers, err := crew.Loose(c, does(func(w *crew.Worker, _ api.Call) api.Answer { return api.Answer{Ints: f(w)} }))
	if err != api.OK || len(answers) != api.MaxWorkers {
		t.Fatalf("Loose: %v, %v", answers, err)
	}
	var told [][]int
	for _, list := range answers {
		if len(list) != 1 || list[0].Err != api.OK {
			t.Fatalf("Loose: %v", list)
		}
		told = append(told, list[0].Ints)
	}
	return told
}

const often = 3000

// Workers without turns lose nothing; what one of them sums up never falls.
func TestLooseCounter(t *testing.T) {
	for _, shards := range []int{1, 3, api.MaxShards} {
		x := newThings(t, size{shards, 0, 1})
		told := loose(t, func(w *crew.Worker) []int {
			var sums []int
			for i := range often {
				x.counter.Add(w, (i+w.Number())%shards, 1+i%2)
				if i%50 == 0 {
					sums = append(sums, x.counter.Sum(w))
				}
			}
			return sums
		})
		all := api.MaxWorkers * often * 3 / 2
		for k, sums := range told {
			if !slices.IsSorted(sums) || sums[0] < 1 || sums[len(sums)-1] > all {
				t.Errorf("P5.5: %d shards: worker %d: %v", shards, k, sums)
			}
		}
		if sum := x.counter.Sum(nil); sum != all {
			t.Errorf("P5.5: %d shards: %d, want %d", shards, sum, all)
		}
	}
}

func TestLooseTicket(t *testing.T) {
	x := newThings(t, size{1, -7, 1})
	told := loose(t, func(w *crew.Worker) []int {
		var list []int
		for range often {
			list = append(list, x.ticket.Next(w), x.ticket.Now(w))
		}
		return list
	})
	var all []int
	for k, list := range told {
		if !slices.IsSorted(list) {
			t.Errorf("P5.6: worker %d: its tickets fall", k)
		}
		for i := 0; i < len(list); i += 2 {
			all = append(all, list[i])
		}
	}
	slices.Sort(all)
	for i, n := range all {
		if n != i-7 {
			t.Fatalf("P5.6: the ticket %d where %d must be", n, i-7)
		}
	}
	if now := x.ticket.Now(nil); now != api.MaxWorkers*often-7 {
		t.Errorf("P5.6: the next ticket is %d", now)
	}
}

// All set all marks: of each just one is told so.
func TestLooseMarksAreSetOnce(t *testing.T) {
	x := newThings(t, size{1, 0, api.MaxMarks})
	told := loose(t, func(w *crew.Worker) []int {
		var mine []int
		for i := range api.MaxMarks {
			if ok, _ := x.marks.Set(w, i); ok {
				mine = append(mine, i)
			}
			if ok, _ := x.marks.Test(w, i); !ok {
				mine = append(mine, -1)
			}
		}
		return mine
	})
	all := slices.Concat(told...)
	slices.Sort(all)
	for i, n := range all {
		if n != i {
			t.Fatalf("P5.7: mark %d: told by %d", i, n)
		}
	}
	if len(all) != api.MaxMarks || x.marks.Count(nil) != api.MaxMarks {
		t.Errorf("P5.7: %d were told, %d are set", len(all), x.marks.Count(nil))
	}
}

// Each worker has a mark of its own in one word, and one that all set and clear: nothing of it is lost.
func TestLooseMarksOfOneWord(t *testing.T) {
	const shared = 31
	x := newThings(t, size{1, 0, 32})
	told := loose(t, func(w *crew.Worker) []int {
		sets, clears, lost := 0, 0, 0
		for i := range often {
			own := 3 * w.Number()
			if ok, _ := x.marks.Set(w, own); !ok {
				lost++
			}
			if ok, _ := x.marks.Set(w, shared); ok {
				sets++
			}
			if ok, _ := x.marks.Test(w, own); !ok || x.marks.Count(w) < 1 {
				lost++
			}
			if ok, _ := x.marks.Clear(w, shared); ok {
				clears++
			}
			if i == often-1 {
				break
			}
			if ok, _ := x.marks.Clear(w, own); !ok {
				lost++
			}
		}
		return []int{sets, clears, lost}
	})
	sets, clears := 0, 0
	for k, list := range told {
		sets, clears = sets+list[0], clears+list[1]
		if list[2] > 0 {
			t.Errorf("P5.7: worker %d lost its mark %d times", k, list[2])
		}
	}
	set := 0
	if ok, _ := x.marks.Test(nil, shared); ok {
		set = 1
	}
	if sets-clears != set || sets == 0 {
		t.Errorf("P5.7: %d Sets and %d Clears, %d is left", sets, clears, set)
	}
	if count := x.marks.Count(nil); count != api.MaxWorkers+set {
		t.Errorf("P5.7: %d are set", count)
	}
}
