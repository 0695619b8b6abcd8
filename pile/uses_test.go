package pile_test

import (
	"fmt"
	"runtime"
	"slices"
	"sort"
	"sync/atomic"
	"testing"

	"skein/api"
	"skein/crew"
	"skein/pile"
)

// ended: a call that ended, who did it, and its answer.
type ended struct {
	worker int
	call   api.Call
	answer api.Answer
}

// allEnded: the calls that ended, in the order of their last lines.
func allEnded(c api.Case, run api.Run) []ended {
	var all []ended
	for k, answers := range run.Answers {
		for i, a := range answers {
			all = append(all, ended{k, c.Work[k][i], a})
		}
	}
	sort.Slice(all, func(i, j int) bool { return all[i].answer.End < all[j].answer.End })
	return all
}

// changed: whether a call changed the head.
func (e ended) changed() bool {
	return e.answer.Err == api.OK && (e.call.Kind == 1 || e.call.Kind == 3)
}

// stack: a plain one, from the top; who has what is out, and what he popped last.
type stack struct {
	there   []int
	out     []int
	mine    [8]int
	changes int
}

// do does a call that ended with its last line; it tells what is amiss.
func (s *stack) do(e ended) string {
	a, mine := e.answer, &s.mine[e.worker]
	switch {
	case e.call.Kind == 1 && len(s.there) == 0:
		if a.N != 0 || a.Err != api.ErrPileEmpty || a.Own%3 != 1 {
			return "a Pop of nothing"
		}
	case e.call.Kind == 1:
		if a.N != s.there[0] || a.Err != api.OK || a.Own%3 != 0 || slices.Contains(s.out, a.N) {
			return "a Pop"
		}
		s.there, s.out, *mine = s.there[1:], append(s.out, a.N), a.N
		s.changes++
	case e.call.Kind == 3 && *mine == 0:
		if a.Err != api.ErrPilePlace || a.Own != 1 {
			return "a call 3 with nothing to push"
		}
	case e.call.Kind == 3:
		at := slices.Index(s.out, *mine)
		if a.Err != api.OK || a.Own%3 != 0 || at < 0 {
			return "a call 3"
		}
		s.there, s.out, *mine = append([]int{*mine}, s.there...), slices.Delete(s.out, at, at+1), 0
		s.changes++
	case e.call.Kind == 4:
		if !slices.Equal(a.Ints, s.there) {
			return "a Look"
		}
	}
	return ""
}

// wentRound tells how often a call went round; a Look's rounds aren't of one length, so of it just whether it did.
func (e ended) wentRound() int {
	switch {
	case e.call.Kind == 4:
		return min(1, e.answer.Own-len(e.answer.Ints)-2)
	case e.answer.Own == 0:
		return -1
	}
	return (e.answer.Own - 1) / 3
}

// checkRounds: each round wants a change of the head by somebody else meanwhile.
func checkRounds(t *testing.T, x mixed, all []ended) {
	t.Helper()
	for _, e := range all {
		changes := 0
		for _, o := range all {
			if o.worker != e.worker && o.changed() && o.answer.End > e.answer.Begin && o.answer.End < e.answer.End {
				changes++
			}
		}
		if rounds := e.wentRound(); rounds < 0 || rounds > changes {
			t.Fatalf("P8.2: %+v: %+v went round %d times, %d changes", x, e, rounds, changes)
		}
	}
}

// check holds what a pile is for against a Play by the calls 1, 3 and 4.
func check(t *testing.T, x mixed) {
	t.Helper()
	run, places, head, err := pile.Play(x.n, x.tag, x.c)
	if err != api.OK {
		t.Fatalf("P8.3: %+v: %v", x, err)
	}
	all := allEnded(x.c, run)
	s := &stack{there: upTo(x.n)}
	for _, e := range all {
		if amiss := s.do(e); amiss != "" {
			t.Fatalf("P8.5: %+v: %s at step %d: %+v, there %v, out %v", x, amiss, e.answer.End, e, s.there, s.out)
		}
	}
	if !slices.Equal(places, s.there) {
		t.Fatalf("P8.5: %+v: Places %v, want %v", x, places, s.there)
	}
	each := append(slices.Clone(places), s.out...)
	slices.Sort(each)
	if !slices.Equal(each, upTo(x.n)) {
		t.Fatalf("P8.5: %+v: there %v, out %v", x, places, s.out)
	}
	want := top{0, (x.tag + s.changes) % (1 << 40)}
	if len(s.there) > 0 {
		want.place = s.there[0]
	}
	if head != want.word() {
		t.Fatalf("P8.6: %+v: Head %d, want %d (%v)", x, head, want.word(), want)
	}
	checkRounds(t, x, all)
}

func TestUsesInMixedRuns(t *testing.T) {
	mixedPlays(8000, false, func(x mixed) { check(t, x) })
}

// Every order of the lines of few calls, with halts too.
func TestUsesInEveryOrder(t *testing.T) {
	for _, calls := range [][][]api.Call{
		{{pop(), back()}, {pop(), back()}},
		{{pop()}, {pop(), pop(), back()}},
		{{pop(), pop(), back()}, {pop(), back()}},
		{{look()}, {pop(), pop(), back()}},
		{{look(), pop()}, {pop(), back()}},
	} {
		for n := 1; n <= 3; n++ {
			orders(2, 11, func(turns []int) { check(t, mixed{n, 0, api.Case{Work: calls, Turns: turns}}) })
			orders(2, 6, func(turns []int) {
				for halt := 1; halt <= 6; halt++ {
					check(t, mixed{n, 0, api.Case{Work: calls, Turns: turns, Halt: []int{halt}}})
					check(t, mixed{n, 0, api.Case{Work: calls, Turns: turns, Halt: []int{0, halt}}})
					check(t, mixed{n, maxTag, api.Case{Work: calls, Turns: turns, Until: 2 * halt}})
				}
			})
		}
	}
	calls := [][]api.Call{{pop(), back()}, {pop(), back()}, {pop(), look()}}
	orders(3, 7, func(turns []int) {
		check(t, mixed{2, 0, api.Case{Work: calls, Turns: turns}})
		check(t, mixed{2, 0, api.Case{Work: calls, Turns: turns, Halt: []int{2, 0, 1}}})
	})
}

// The tag goes up by one with each call that ended well, by no other one.
func TestTagOfEveryCall(t *testing.T) {
	for _, x := range []struct {
		calls []api.Call
		more  int
	}{
		{nil, 0}, {[]api.Call{pop()}, 1}, {[]api.Call{pop(), back()}, 2}, {[]api.Call{pop(), push(1)}, 2}, {[]api.Call{push(2)}, 1}, {[]api.Call{push(1), push(1)}, 2},
		{[]api.Call{look(), back(), push(0), push(3), {Kind: 5}}, 0}, {[]api.Call{pop(), pop(), pop(), pop()}, 2},
	} {
		for _, tag := range []int{0, 1, maxTag - 1, maxTag} {
			_, places, head, err := pile.Play(2, tag, work(x.calls))
			want := (tag + x.more) % (1 << 40)
			if err != api.OK || head%(1<<40) != want || (len(places) > 0 && head>>40 != places[0]) {
				t.Errorf("P8.6: %v from tag %d: %d, %v, want tag %d", x.calls, tag, head, err, want)
			}
		}
	}
}

func TestStorm(t *testing.T) {
	for _, n := range []int{1, 2, 3, 8, 40, 4095, 4096} {
		for _, workers := range []int{1, 2, 3, 8} {
			for _, rounds := range []int{0, 1, 2, 500} {
				if list, err := pile.Storm(n, workers, rounds); err != api.OK || !slices.Equal(list, upTo(n)) {
					t.Fatalf("P8.4: Storm(%d, %d, %d): %v, %v", n, workers, rounds, list, err)
				}
			}
		}
	}
	for _, n := range []int{1, 7, 4096} {
		if list, err := pile.Storm(n, 8, 10000); err != api.OK || !slices.Equal(list, upTo(n)) {
			t.Fatalf("P8.4: Storm(%d, 8, 10000): %v, %v", n, list, err)
		}
	}
}

func TestStormRefuses(t *testing.T) {
	refuses := func(n, workers, rounds int) {
		t.Helper()
		if list, err := pile.Storm(n, workers, rounds); err != api.ErrPileMany || len(list) > 0 {
			t.Errorf("P8.4: Storm(%d, %d, %d): %v, %v", n, workers, rounds, list, err)
		}
	}
	noWorkers := []int{lowest, -8, -1, 0, 9, 10, 64, 1 << 32, 1<<32 + 1, highest}
	noRounds := []int{lowest, -10000, -1, 10001, 10002, 20000, 1 << 32, highest}
	for _, n := range noSizes {
		refuses(n, 1, 1)
		refuses(n, 0, 1)
		refuses(n, 1, -1)
	}
	for _, workers := range noWorkers {
		refuses(1, workers, 0)
		refuses(4096, workers, 10000)
		for _, rounds := range noRounds {
			refuses(3, workers, rounds)
			refuses(0, workers, rounds)
		}
	}
	for _, rounds := range noRounds {
		refuses(1, 1, rounds)
		refuses(4096, 8, rounds)
	}
}

func TestStormKeepsToItself(t *testing.T) {
	leavesNothing(t, "P8.4", func() {
		a, _ := pile.Storm(20, 8, 100)
		b, _ := pile.Storm(20, 8, 100)
		writeOver(a)
		if !slices.Equal(b, upTo(20)) {
			t.Errorf("rule 3: two storms share memory: %v", b)
		}
		pile.Storm(0, 8, 100)
		pile.Storm(3, 8, -1)
	})
}

// loose does f by so many workers, without turns; all have come when they begin.
func loose(t *testing.T, workers int, f func(w *crew.Worker) []int) {
	t.Helper()
	var come atomic.Int64
	c := api.Case{Work: slices.Repeat([][]api.Call{{{}}}, workers)}
	answers, err := crew.Loose(c, does(func(w *crew.Worker, _ api.Call) api.Answer {
		come.Add(1)
		for come.Load() < int64(workers) {
			runtime.Gosched()
		}
		return api.Answer{Ints: f(w)}
	}))
	if err != api.OK || len(answers) != workers {
		t.Fatalf("Loose: %v, %v", answers, err)
	}
	for k, list := range answers {
		if len(list) != 1 || list[0].Err != api.OK || len(list[0].Ints) > 0 {
			t.Fatalf("P8.5: worker %d finds %+v", k, list)
		}
	}
}

const often = 3000

// Without turns no place is out twice: owner is written without a lock by whoever has the place, so two of them would be a race too.
func TestLooseOwners(t *testing.T) {
	for _, n := range []int{1, 2, 5, 20, 200} {
		p := newPile(t, n, 0)
		owner := make([]int, n+1)
		var changes atomic.Int64
		loose(t, 8, func(w *crew.Worker) []int {
			var mine []int
			r := mixer(w.Number())
			for round := range often {
				if i, err := p.Pop(w); err == api.OK {
					if i < 1 || i > n || owner[i] != 0 {
						return []int{round, i}
					}
					owner[i] = w.Number() + 1
					mine = append(mine, i)
					changes.Add(1)
				}
				for len(mine) > r.below(4) {
					k := r.below(len(mine))
					i := mine[k]
					if owner[i] != w.Number()+1 {
						return []int{round, -i}
					}
					owner[i] = 0
					mine = slices.Delete(mine, k, k+1)
					if err := p.Push(w, i); err != api.OK {
						return []int{round, int(err)}
					}
					changes.Add(1)
				}
			}
			for _, i := range mine {
				owner[i] = 0
				p.Push(w, i)
				changes.Add(1)
			}
			return nil
		})
		places := p.Places()
		slices.Sort(places)
		if !slices.Equal(places, upTo(n)) {
			t.Fatalf("P8.5: a pile of %d: %v", n, places)
		}
		if tag := p.Head() % (1 << 40); tag != int(changes.Load()) {
			t.Errorf("P8.6: a pile of %d: tag %d behind %d calls that ended well", n, tag, changes.Load())
		}
	}
}

// A Pop finds nothing only if nothing is there: with as many places as workers, one each, there is always one.
func TestLooseNeverEmpty(t *testing.T) {
	p := newPile(t, 8, maxTag-100)
	loose(t, 8, func(w *crew.Worker) []int {
		for round := range often {
			i, err := p.Pop(w)
			if err != api.OK {
				return []int{round, int(err)}
			}
			p.Push(w, i)
		}
		return nil
	})
}

// One worker changes the pile, and keeps what it was behind each change; what others see without turns was there at some moment, and never goes back.
func TestLooseLooksAreMoments(t *testing.T) {
	const n, others = 6, 3
	for seed := range 20 {
		p := newPile(t, n, 0)
		moments := []string{fmt.Sprint(upTo(n))}
		var seen [others + 1][]string
		var over atomic.Bool
		loose(t, others+1, func(w *crew.Worker) []int {
			if k := w.Number(); k > 0 {
				for !over.Load() {
					seen[k] = append(seen[k], fmt.Sprint(p.Look(w)))
					runtime.Gosched() // where there is one processor, who changes the pile must have it too
				}
				return nil
			}
			moments = append(moments, changeOften(p, w, mixer(seed), upTo(n))...)
			over.Store(true)
			return nil
		})
		for k, list := range seen {
			at := 0
			for _, look := range list {
				from := at
				for at < len(moments) && moments[at] != look {
					at++
				}
				if at == len(moments) {
					t.Fatalf("P8.7: worker %d sees %s, which isn't there behind moment %d (%s)", k, look, from, moments[from])
				}
			}
		}
	}
}

// changeOften pops and pushes by one worker, and tells the pile behind each change.
func changeOften(p *pile.Pile, w *crew.Worker, r mixer, there []int) []string {
	var moments []string
	var out []int
	for i := range often {
		if i%64 == 0 {
			runtime.Gosched() // and so must those that look
		}
		if k := r.below(2 * (len(out) + 1)); k < len(out) {
			p.Push(w, out[k])
			there = append([]int{out[k]}, there...)
			out = slices.Delete(out, k, k+1)
		} else if i, err := p.Pop(w); err == api.OK {
			there, out = there[1:], append(out, i)
		}
		moments = append(moments, fmt.Sprint(there))
	}
	return moments
}
