package clock_test

import (
	"runtime"
	"slices"
	"sync/atomic"
	"testing"

	"skein/api"
	"skein/clock"
	"skein/crew"
)

// ended: a call that ended, and whose it was.
type ended struct {
	k    int
	call api.Call
	api.Answer
}

// looked: a Play, and what there is behind each of its steps; a case that is cut there tells it.
type looked struct {
	x       mixed
	calls   []ended
	moments []state // the first one: ahead of all steps
}

func look(t *testing.T, x mixed) looked {
	t.Helper()
	x.c.Until = 0
	run, _, err := clock.Play(x.leases, x.c)
	if err != api.OK {
		t.Fatalf("%+v: %v", x, err)
	}
	l := looked{x: x, moments: []state{moment(1, make([]int, x.leases)...)}}
	for until := 1; until <= run.Steps; until++ {
		x.c.Until = until
		_, rows, err := clock.Play(x.leases, x.c)
		if err != api.OK || len(rows) != 2 || len(rows[0]) != 1 {
			t.Fatalf("P13.8: %+v: %v, %v", x, rows, err)
		}
		l.moments = append(l.moments, state{rows[0][0], rows[1]})
	}
	for k, answers := range run.Answers {
		for i, a := range answers {
			l.calls = append(l.calls, ended{k, x.c.Work[k][i], a})
		}
	}
	return l
}

// of: the calls of a Kind that answered no error.
func (l looked) of(kind int) []ended {
	var list []ended
	for _, e := range l.calls {
		if e.call.Kind == kind && e.Err == api.OK {
			list = append(list, e)
		}
	}
	return list
}

// found: what was looked at, so that the cases aren't too plain.
type found struct {
	takes, late, back, held, behind, zero, pairs int
}

func (f *found) add(o found) {
	f.takes += o.takes
	f.late += o.late
	f.back += o.back
	f.held += o.held
	f.behind += o.behind
	f.zero += o.zero
	f.pairs += o.pairs
}

// check holds the three promises against a Play.
func check(t *testing.T, x mixed) found {
	t.Helper()
	l := look(t, x)
	var f found
	l.checkStamps(t, &f)
	l.checkLeasts(t, &f)
	l.checkOrder(t, &f)
	return f
}

// checkStamps: a stamp is at least what now was ahead of its Take, and below what now is behind it.
func (l looked) checkStamps(t *testing.T, f *found) {
	t.Helper()
	for _, a := range l.of(1) {
		ahead, behind := l.moments[a.Begin-1].now, l.moments[a.End].now
		if a.M > behind-1 || a.M < ahead {
			t.Fatalf("P13.9: %+v: %+v, now %d ahead of it, %d behind it", l.x, a, ahead, behind)
		}
		f.takes++
		if a.M < behind-1 || l.moments[a.End-1].now == behind {
			f.late++
		}
		if a.Own > a.N+5 {
			f.back++
		}
	}
}

// checkLeasts: what Least answers is at most what was held all along, and what is taken behind its first line.
func (l looked) checkLeasts(t *testing.T, f *found) {
	t.Helper()
	for _, a := range l.of(3) {
		if a.N == 0 {
			f.zero++
		}
		for i := range l.x.leases {
			is := l.moments[a.Begin].leases[i]
			for _, m := range l.moments[a.Begin : a.End+1] {
				if m.leases[i] != is {
					is = 0
				}
			}
			if is < 2 {
				continue
			}
			f.held++
			if a.N > is-1 {
				t.Fatalf("P13.10: %+v: %+v, but lease %d is held with %d", l.x, a, i, is-1)
			}
		}
		for _, b := range l.of(1) {
			if b.Begin <= a.Begin {
				continue
			}
			f.behind++
			if a.N > b.M {
				t.Fatalf("P13.10: %+v: %+v, but behind its first line: %+v", l.x, a, b)
			}
		}
	}
}

// checkOrder: now never goes back, and a later Take's stamp is greater.
func (l looked) checkOrder(t *testing.T, f *found) {
	t.Helper()
	for i := 1; i < len(l.moments); i++ {
		if l.moments[i].now < l.moments[i-1].now || l.moments[i].now > l.moments[i-1].now+1 {
			t.Fatalf("P13.11: %+v: now was %d, and is %d", l.x, l.moments[i-1].now, l.moments[i].now)
		}
	}
	for _, a := range l.of(1) {
		for _, b := range l.of(1) {
			if a.End >= b.Begin {
				continue
			}
			f.pairs++
			if a.M >= b.M {
				t.Fatalf("P13.11: %+v: %+v, and behind it %+v", l.x, a, b)
			}
		}
	}
}

func TestPromisesOfMixedPlays(t *testing.T) {
	var all found
	mixedPlays(600, manners{}, func(x mixed) { all.add(check(t, x)) })
	if all.takes < 1000 || all.late < 50 || all.back < 50 || all.held < 200 || all.behind < 500 || all.zero < 50 || all.pairs < 1000 {
		t.Errorf("the cases are too plain: %+v", all)
	}
}

// now goes on, and no lease is told wrongly, also where leases are released that are being taken.
func TestNowWithWildReleases(t *testing.T) {
	var all found
	mixedPlays(300, manners{wild: true, frees: true}, func(x mixed) {
		l := look(t, x)
		l.checkOrder(t, &all)
	})
	if all.pairs < 500 {
		t.Errorf("the cases are too plain: %+v", all)
	}
}

func TestPromisesInEveryOrder(t *testing.T) {
	var all found
	for _, calls := range [][][]api.Call{
		{{take(0)}, {take(0), take(1)}},
		{{take(0), release(0)}, {take(0), least()}},
		{{take(0), take(1)}, {least(), take(0)}},
		{{least(), least()}, {take(0), release(0), take(0)}},
	} {
		for _, n := range []int{2, 3} {
			orders(2, 8, func(turns []int) {
				all.add(check(t, mixed{n, api.Case{Work: calls, Turns: turns}}))
			})
		}
	}
	calls := [][]api.Call{{take(0)}, {take(0)}, {least(), take(0)}}
	orders(3, 6, func(turns []int) {
		all.add(check(t, mixed{3, api.Case{Work: calls, Turns: turns}}))
	})
	if all.takes < 1000 || all.late < 100 || all.back < 100 || all.held < 200 || all.behind < 200 || all.zero < 100 || all.pairs < 200 {
		t.Errorf("the orders are too plain: %+v", all)
	}
}

// Every order of two whole Takes, line by line.
func TestTwoTakesInEveryOrder(t *testing.T) {
	unlike, alike := 0, 0
	orders(2, 12, func(turns []int) {
		run, rows, err := clock.Play(2, api.Case{Work: [][]api.Call{{take(0)}, {take(0)}}, Turns: turns})
		if err != api.OK || len(run.Answers[0]) != 1 || len(run.Answers[1]) != 1 {
			t.Fatalf("P13.3: %+v, %v", run, err)
		}
		a, b := run.Answers[0][0], run.Answers[1][0]
		if !a.Ok || !b.Ok || a.N == b.N || rows[1][a.N] != a.M+1 || rows[1][b.N] != b.M+1 || rows[0][0] != max(a.M, b.M)+1 {
			t.Fatalf("P13.3: turns %v: %+v, %+v, %v", turns, a, b, rows)
		}
		// Each Take moves now on once at most, so neither goes back more than once.
		if max(a.Own-a.N, b.Own-b.N) > 7 {
			t.Fatalf("P13.3: turns %v: %+v, %+v", turns, a, b)
		}
		if a.M == b.M {
			alike++
		} else {
			unlike++
		}
	})
	if alike < 100 || unlike < 100 {
		t.Errorf("the orders are too plain: %d alike, %d unlike", alike, unlike)
	}
}

// What is held while somebody is halted in the midst of a Take: Least is 0 for good, and nothing else is told wrongly.
func TestPromisesBehindHalts(t *testing.T) {
	for halt := 1; halt <= 5; halt++ {
		c := work([]api.Call{take(0)}, slices.Repeat([]api.Call{take(0), least(), release(0)}, 12))
		c.Turns, c.Halt = make([]int, halt), []int{halt}
		f := check(t, mixed{2, c})
		run, _, _ := clock.Play(2, c)
		for i, a := range run.Answers[1] {
			want := min(1, halt/3) // being taken, then held with stamp 1
			if i%3 == 1 && a.N != want {
				t.Errorf("P13.10: halted behind %d lines of a Take: Least %+v, want %d", halt, a, want)
			}
		}
		if f.takes < 12 {
			t.Errorf("P13.9: halted behind %d lines of a Take: %+v", halt, f)
		}
	}
}

// loose does f by so many workers, without turns; all have come when they begin.
func loose(t *testing.T, promise string, workers int, f func(w *crew.Worker) []int) {
	t.Helper()
	var come atomic.Int64
	c := api.Case{Work: slices.Repeat([][]api.Call{{{}}}, workers)}
	answers, err := crew.Loose(c, does(func(w *crew.Worker, _ api.Call) api.Answer {
		come.Add(1)
		for come.Load() < int64(workers) {
			runtime.Gosched()
		}
		return api.Answer{Ints: f(w)}
	}))
	if err != api.OK || len(answers) != workers {
		t.Fatalf("Loose: %v, %v", answers, err)
	}
	for k, list := range answers {
		if len(list) != 1 || list[0].Err != api.OK || len(list[0].Ints) > 0 {
			t.Fatalf("%s: worker %d finds %+v", promise, k, list)
		}
	}
}

const often = 5000

// Without turns, too, a lease is one worker's at a time: what it writes meanwhile no other one writes (the race detector would tell it).
func TestLooseLeasesAreOneWorkersEach(t *testing.T) {
	for _, leases := range []int{1, 3, 8} {
		r := newReal(t, leases)
		holder := make([]int, leases)
		var taken, refused atomic.Int64
		loose(t, "P13.3", 8, func(w *crew.Worker) []int {
			for round := range often {
				s, err := r.c.Take(w)
				if err == api.ErrClockLeases {
					refused.Add(1)
					runtime.Gosched()
					continue
				}
				if err != api.OK || s.Lease < 0 || s.Lease >= leases {
					return []int{round, int(err), s.Lease}
				}
				taken.Add(1)
				holder[s.Lease] = w.Number() + 1
				if round%16 == 0 {
					runtime.Gosched()
				}
				if holder[s.Lease] != w.Number()+1 || !r.c.Holds(w, s) {
					return []int{round, s.Lease, s.Stamp}
				}
				if err := r.c.Release(w, s.Lease); err != api.OK {
					return []int{round, int(err)}
				}
			}
			return nil
		})
		if taken.Load() == 0 || leases == 8 && refused.Load() != 0 {
			t.Errorf("P13.3: %d leases: %d Takes, %d refused", leases, taken.Load(), refused.Load())
		}
		s := r.state()
		if !slices.Equal(s.leases, make([]int, leases)) || s.now > 1+int(taken.Load()) || s.now < 2 {
			t.Errorf("P13.3: %d leases, %d Takes: %+v", leases, taken.Load(), s)
		}
	}
}

// atLeast makes a number at least so great.
func atLeast(a *atomic.Int64, n int) {
	for is := a.Load(); is < int64(n); is = a.Load() {
		if a.CompareAndSwap(is, int64(n)) {
			return
		}
	}
}

// Without turns, too, stamps lie between what now is ahead and behind, and each is above those of all Takes that ended ahead of it.
func TestLooseStamps(t *testing.T) {
	r := newReal(t, 8)
	var last atomic.Int64 // the greatest stamp of a Take that has ended
	loose(t, "P13.9, P13.11", 8, func(w *crew.Worker) []int {
		for round := range often {
			was, ahead := int(last.Load()), r.c.Now(w)
			s, err := r.c.Take(w)
			behind := r.c.Now(w)
			atLeast(&last, s.Stamp)
			if err != api.OK || s.Stamp < ahead || s.Stamp > behind-1 || s.Stamp <= was || behind < ahead {
				return []int{round, int(err), was, ahead, s.Stamp, behind}
			}
			if err := r.c.Release(w, s.Lease); err != api.OK {
				return []int{round, int(err)}
			}
		}
		return nil
	})
	if now := r.c.Now(nil); now != int(last.Load())+1 {
		t.Errorf("P13.9: now %d, the last stamp %d", now, last.Load())
	}
}

// Without turns, too, Least is at most what is held all along, and at most what is taken behind it.
func TestLooseLeast(t *testing.T) {
	r := newReal(t, 9)
	r.takes(t, 3)
	r.c.Release(nil, 0)
	r.c.Release(nil, 1)
	var held atomic.Int64 // a stamp that is held, from ahead of its being told till nobody asks any more
	held.Store(3)
	loose(t, "P13.10", 6, func(w *crew.Worker) []int {
		for round := range often {
			first := r.c.Least(w)
			if first > int(held.Load()) {
				return []int{round, first}
			}
			s, err := r.c.Take(w)
			second := r.c.Least(w)
			if err != api.OK || first > s.Stamp || second > s.Stamp || second > int(held.Load()) || !r.c.Holds(w, s) {
				return []int{round, int(err), first, s.Stamp, second}
			}
			if err := r.c.Release(w, s.Lease); err != api.OK {
				return []int{round, int(err)}
			}
		}
		return nil
	})
	if r.c.Least(nil) != 3 || r.c.Release(nil, 2) != api.OK || r.c.Least(nil) != r.c.Now(nil) {
		t.Errorf("P13.10: %+v", r.state())
	}
}

// Workers that let go of each other's leases, also of such as are being taken: all calls end, now goes on, and nobody falls.
func TestLooseWildReleases(t *testing.T) {
	r := newReal(t, 3)
	loose(t, "P13.4", 8, func(w *crew.Worker) []int {
		m, last := mixer(w.Number()), 0
		for round := range often {
			switch m.below(4) {
			case 0, 1:
				s, err := r.c.Take(w)
				if err == api.OK && (s.Stamp <= last || s.Lease < 0 || s.Lease > 2) || err != api.OK && err != api.ErrClockLeases {
					return []int{round, int(err), s.Lease, s.Stamp, last}
				}
				last = max(last, s.Stamp)
			case 2:
				if err := r.c.Release(w, m.below(3)); err != api.OK && err != api.ErrClockLease {
					return []int{round, int(err)}
				}
			default:
				if n, now := r.c.Least(w), r.c.Now(w); n < 0 || n > now {
					return []int{round, n, now}
				}
			}
		}
		return nil
	})
	for i, is := range r.c.Leases() {
		if is == 1 || is < 0 {
			t.Errorf("P13.3: lease %d is being taken still", i)
		}
	}
}
