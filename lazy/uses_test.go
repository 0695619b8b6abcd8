package lazy_test

import (
	"runtime"
	"slices"
	"sort"
	"sync/atomic"
	"testing"

	"skein/api"
	"skein/crew"
	"skein/lazy"
)

// ended: a call that ended, and its answer.
type ended struct {
	call   api.Call
	answer api.Answer
}

// allEnded: the calls that ended, in the order of their last lines.
func allEnded(c api.Case, run api.Run) []ended {
	var all []ended
	for k, answers := range run.Answers {
		for i, a := range answers {
			all = append(all, ended{c.Work[k][i], a})
		}
	}
	sort.Slice(all, func(i, j int) bool { return all[i].answer.End < all[j].answer.End })
	return all
}

// gets: of one value what its Gets answered, in their order.
func gets(all []ended, kind, place int) []api.Answer {
	var list []api.Answer
	for _, e := range all {
		if e.call.Kind == kind && e.call.A == place {
			list = append(list, api.Answer{N: e.answer.N, Err: e.answer.Err})
		}
	}
	return list
}

// checkOnce holds P7.5 against the Gets of a Once.
func checkOnce(t *testing.T, x mixed, list []api.Answer, place, calls int, done bool) {
	t.Helper()
	if calls != min(len(list), 1) {
		t.Fatalf("P7.5: %+v: Once %d: %d Gets, called %d times", x, place, len(list), calls)
	}
	for _, a := range list {
		if !sameAnswer(a, list[0]) {
			t.Fatalf("P7.5: %+v: Once %d answers %+v", x, place, list)
		}
	}
	if done != (len(list) > 0 && list[0].Err == api.OK) {
		t.Fatalf("P7.5: %+v: Once %d: Done %v behind %+v", x, place, done, list)
	}
}

// checkRetry holds P7.5 against the Gets of a Retry.
func checkRetry(t *testing.T, x mixed, list []api.Answer, place, calls int, done bool) {
	t.Helper()
	first := slices.IndexFunc(list, func(a api.Answer) bool { return a.Err == api.OK })
	want := first + 1
	if first < 0 {
		want = len(list)
	}
	if calls != want || done != (first >= 0) {
		t.Fatalf("P7.5: %+v: Retry %d: called %d times, Done %v: %+v", x, place, calls, done, list)
	}
	for i := first; i >= 0 && i < len(list); i++ {
		if !sameAnswer(list[i], list[first]) {
			t.Fatalf("P7.5: %+v: Retry %d answers %+v", x, place, list)
		}
	}
}

// checkTable holds P7.5 against the table: Alls, also those that haven't ended, ask too.
func checkTable(t *testing.T, x mixed, all []ended, run api.Run, told []api.Made) {
	t.Helper()
	asks := make([]int, len(told))
	reach := func(own int) {
		for i := range own {
			asks[i]++
		}
	}
	for _, e := range all {
		switch {
		case e.call.Kind == 3 && e.answer.Err != api.ErrLazyMaker:
			asks[e.call.A]++
		case e.call.Kind == 4:
			reach(e.answer.Own)
		}
	}
	for _, o := range run.Open {
		reach(o.Own) // nothing but an All is open
	}
	for i, m := range told {
		if m.Calls[2] != min(asks[i], 1) {
			t.Fatalf("P7.5: %+v: place %d: asked %d times, called %d times", x, i, asks[i], m.Calls[2])
		}
		for _, a := range gets(all, 3, i) {
			if m.Done[2] != (a.Err == api.OK) || a.N != m.Values[2] {
				t.Fatalf("P7.5: %+v: place %d answers %+v, but %v", x, i, a, m)
			}
		}
	}
}

// check holds what the calls are for against a Play.
func check(t *testing.T, x mixed) {
	t.Helper()
	run, told, err := lazy.Play(x.makers, x.c)
	if err != api.OK || len(told) != len(x.makers) {
		t.Fatalf("P7.4: %+v: %v, %v", x, told, err)
	}
	all := allEnded(x.c, run)
	for i, m := range told {
		checkOnce(t, x, gets(all, 1, i), i, m.Calls[0], m.Done[0])
		checkRetry(t, x, gets(all, 2, i), i, m.Calls[1], m.Done[1])
	}
	checkTable(t, x, all, run, told)
}

func TestUsesInMixedRuns(t *testing.T) {
	mixedPlays(4000, false, func(x mixed) { check(t, x) })
	mixedPlays(1500, true, func(x mixed) { check(t, x) })
}

func TestUsesInEveryOrder(t *testing.T) {
	for _, calls := range [][][]api.Call{
		{{once(0), onceDone(0), once(0)}, {once(0), onceDone(0)}, {onceDone(0), once(0)}},
		{{retry(0), retryDone(0), retry(0)}, {retry(0), retry(0)}, {retryDone(0), retry(0)}},
		{{all()}, {place(0), made()}, {place(1), all()}},
		{{all()}, {all()}, {made(), place(2), made()}},
		{{once(0), retry(0), place(0)}, {retry(0), once(0)}, {place(0), retry(0)}},
	} {
		for _, makers := range [][]api.Maker{
			{makes(7), makes(8), makes(9)}, {fails(1, 7), makes(8), makes(9)}, {falls(2, 7), fails(1, 8), makes(0)}, {fails(4, 7), makes(8), falls(1, 9)},
		} {
			orders(3, 7, func(turns []int) {
				check(t, mixed{makers, api.Case{Work: calls, Turns: turns}})
			})
			orders(3, 5, func(turns []int) {
				check(t, mixed{makers, api.Case{Work: calls, Turns: turns, Halt: []int{2, 0, 1}}})
			})
		}
	}
}

// loose does f by so many workers, without turns.
func loose(t *testing.T, workers int, f func(w *crew.Worker) []int) [][]int {
	t.Helper()
	var c api.Case
	for range workers {
		c.Work = append(c.Work, []api.Call{{}})
	}
	answers, err := crew.Loose(c, does(func(w *crew.Worker, _ api.Call) api.Answer { return api.Answer{Ints: f(w)} }))
	if err != api.OK || len(answers) != workers {
		t.Fatalf("Loose: %v, %v", answers, err)
	}
	var told [][]int
	for _, list := range answers {
		if len(list) != 1 || list[0].Err != api.OK {
			t.Fatalf("Loose: %v", list)
		}
		told = append(told, list[0].Ints)
	}
	return told
}

const often = 300

// slow: a maker that takes its time and looks whether anybody else is in its midst; calls is written without a lock.
type slow struct {
	told   api.Maker
	calls  int
	within atomic.Int64
	faults atomic.Int64
}

// ask makes another value each time that it is called.
func (m *slow) ask() (int, bool) {
	if m.within.Add(1) > 1 {
		m.faults.Add(1)
	}
	defer m.within.Add(-1)
	m.calls++
	for range 5 {
		runtime.Gosched()
	}
	if m.calls <= m.told.Fails {
		if m.told.Falls {
			fall(m.calls)
		}
		return m.calls, false
	}
	return m.told.Value + m.calls, true
}

// meet lets workers go on when all of them have come.
func meet(come *atomic.Int64, workers int64) {
	come.Add(1)
	for come.Load() < workers {
		runtime.Gosched()
	}
}

// Gets of one Once by eight workers without turns: one call, one answer.
func TestLooseOnce(t *testing.T) {
	for _, told := range []api.Maker{makes(70), fails(1, 70), falls(1, 70)} {
		want := []int{71, int(api.OK)}
		switch {
		case told.Falls:
			want = []int{0, int(api.ErrLazyPanic)}
		case told.Fails > 0:
			want = []int{0, int(api.ErrLazyFail)}
		}
		for range often {
			m := &slow{told: told}
			o := lazy.NewOnce(m.ask)
			var come atomic.Int64
			answers := loose(t, 8, func(w *crew.Worker) []int {
				meet(&come, 8)
				v, err := o.Get(w)
				again, e := o.Get(w)
				if again != v || e != err || o.Done(w) != (err == api.OK) {
					return nil
				}
				return []int{v, int(err)}
			})
			for _, a := range answers {
				if !slices.Equal(a, want) {
					t.Fatalf("P7.6: a Once of %+v answers %v", told, answers)
				}
			}
			if m.calls != 1 || m.faults.Load() > 0 {
				t.Fatalf("P7.6: a Once's maker was called %d times, %d times by two at once", m.calls, m.faults.Load())
			}
		}
	}
}

// Gets of one Retry by eight workers without turns: each failure is one Get's, and the value was made once.
func TestLooseRetry(t *testing.T) {
	for _, told := range []api.Maker{makes(70), fails(1, 70), falls(3, 70), fails(10, 70), falls(40, 70)} {
		failure := api.ErrLazyFail
		if told.Falls {
			failure = api.ErrLazyPanic
		}
		for range often {
			m := &slow{told: told}
			r := lazy.NewRetry(m.ask)
			var come atomic.Int64
			answers := loose(t, 8, func(w *crew.Worker) []int {
				meet(&come, 8)
				failures := 0
				v, err := r.Get(w)
				for ; err == failure && v == 0; v, err = r.Get(w) {
					failures++
				}
				again, e := r.Get(w)
				if err != api.OK || e != api.OK || again != v || !r.Done(w) {
					return nil
				}
				return []int{failures, v}
			})
			failures := 0
			for _, a := range answers {
				if len(a) != 2 || a[1] != 70+told.Fails+1 {
					t.Fatalf("P7.6: a Retry of %+v answers %v", told, answers)
				}
				failures += a[0]
			}
			if failures != told.Fails || m.calls != told.Fails+1 || m.faults.Load() > 0 {
				t.Fatalf("P7.6: a Retry of %+v: %d failures, called %d times, %d times by two at once", told, failures, m.calls, m.faults.Load())
			}
		}
	}
}

// As many Gets as failures: no two of them share one.
func TestLooseRetryThatFails(t *testing.T) {
	for _, told := range []api.Maker{fails(highest, 0), falls(highest, 0)} {
		for range often {
			m := &slow{told: told}
			r := lazy.NewRetry(m.ask)
			var come atomic.Int64
			answers := loose(t, 8, func(w *crew.Worker) []int {
				meet(&come, 8)
				for range 5 {
					if v, err := r.Get(w); v != 0 || err == api.OK || r.Done(w) {
						return []int{v, int(err)}
					}
				}
				return nil
			})
			if l := slices.Concat(answers...); len(l) > 0 || m.calls != 40 || m.faults.Load() > 0 {
				t.Fatalf("P7.5: a Retry that fails: %v, called %d times, %d times by two at once", l, m.calls, m.faults.Load())
			}
		}
	}
}

// Who sees Done gets the value, and calls no maker.
func TestLooseDone(t *testing.T) {
	for _, kind := range []string{"P7.1: Once", "P7.2: Retry"} {
		for range often {
			m := &slow{told: makes(5)}
			var v value = lazy.NewOnce(m.ask)
			if kind == "P7.2: Retry" {
				m.told = fails(3, 5)
				v = lazy.NewRetry(m.ask)
			}
			answers := loose(t, 4, func(w *crew.Worker) []int {
				if w.Number() > 0 {
					for !v.Done(w) {
						runtime.Gosched()
					}
				}
				for {
					if n, err := v.Get(w); err == api.OK || w.Number() > 0 {
						return []int{n, int(err)}
					}
				}
			})
			for _, a := range answers {
				if want := []int{5 + m.told.Fails + 1, 0}; !slices.Equal(a, want) {
					t.Fatalf("%s: %v, want %v", kind, answers, want)
				}
			}
			if m.calls != m.told.Fails+1 || m.faults.Load() > 0 {
				t.Fatalf("%s: called %d times", kind, m.calls)
			}
		}
	}
}

// Many goroutines, more than a case has workers.
func TestManyAskOne(t *testing.T) {
	const many = 500
	m, n := &slow{told: makes(1)}, &slow{told: falls(many/2, 1)}
	o, r := lazy.NewOnce(m.ask), lazy.NewRetry(n.ask)
	told := make(chan [2]api.Answer, many)
	for range many {
		go func() {
			var a, b api.Answer
			a.N, a.Err = o.Get(nil)
			b.N, b.Err = r.Get(nil)
			told <- [2]api.Answer{a, b}
		}()
	}
	fell := 0
	for range many {
		switch a := <-told; {
		case !sameAnswer(a[0], api.Answer{N: 2}):
			t.Errorf("P7.6: a Once answers %+v", a[0])
		case sameAnswer(a[1], api.Answer{Err: api.ErrLazyPanic}):
			fell++
		case !sameAnswer(a[1], api.Answer{N: 1 + many/2 + 1}):
			t.Errorf("P7.6: a Retry answers %+v", a[1])
		}
	}
	if fell != many/2 || m.calls != 1 || n.calls != many/2+1 || m.faults.Load()+n.faults.Load() > 0 {
		t.Errorf("P7.6: %d fell; called %d and %d times", fell, m.calls, n.calls)
	}
}

// Of a table's places each is asked once, by whoever comes first; All and Get find the same.
func TestLooseTable(t *testing.T) {
	const n = 40
	for range often / 3 {
		makers := make([]slow, n)
		for i := range makers {
			makers[i].told = makes(100 * i)
		}
		bad := &makers[n-3]
		bad.told = falls(1, 7)
		x := newTable(t, n, func(i int) (int, bool) { return makers[i].ask() })
		var come atomic.Int64
		answers := loose(t, 8, func(w *crew.Worker) []int {
			meet(&come, 8)
			if list, err := x.All(w); w.Number() < 3 && (len(list) > 0 || err != api.ErrLazyPanic) {
				return []int{-1}
			}
			for i := range n {
				i = (i + 5*w.Number()) % n
				v, err := x.Get(w, i)
				if want := 100*i + 1; i != n-3 && (v != want || err != api.OK) || i == n-3 && (v != 0 || err != api.ErrLazyPanic) {
					return []int{i, v, int(err)}
				}
			}
			if len(x.Made(w)) != n-1 {
				return x.Made(w)
			}
			return nil
		})
		if l := slices.Concat(answers...); len(l) > 0 {
			t.Fatalf("P7.6: a table: %v", answers)
		}
		for i := range makers {
			if makers[i].calls != 1 || makers[i].faults.Load() > 0 {
				t.Fatalf("P7.6: place %d was called %d times", i, makers[i].calls)
			}
		}
	}
}

// Made is one line, so one moment's: it never tells a place without those that were made ahead of it.
func TestMadeIsOneMoment(t *testing.T) {
	const n = api.MaxCells
	r := mixer(5)
	for round := range often {
		order := make([]int, n)
		for i := range order {
			order[i] = i
		}
		for i := range order {
			k := i + r.below(n-i)
			order[i], order[k] = order[k], order[i]
		}
		rank := make([]int, n)
		for i, place := range order {
			rank[place] = i
		}
		x := newTable(t, n, func(i int) (int, bool) { return i, true })
		var come atomic.Int64
		answers := loose(t, 3, func(w *crew.Worker) []int {
			meet(&come, 3)
			if w.Number() == 0 {
				for _, place := range order {
					x.Get(w, place)
				}
				return nil
			}
			for {
				list := x.Made(w)
				for i, place := range list {
					if rank[place] >= len(list) || i > 0 && list[i-1] >= place {
						return list
					}
				}
				if len(list) == n {
					return nil
				}
				runtime.Gosched()
			}
		})
		if l := slices.Concat(answers...); len(l) > 0 {
			t.Fatalf("P7.3: round %d: Made told %v, which no moment had; the order was %v", round, l, order)
		}
	}
}
