package epoch_test

import (
	"runtime"
	"slices"
	"sync/atomic"
	"testing"

	"skein/api"
	"skein/crew"
)

// film: what there is behind each step of a case; a case that is cut there tells it.
func film(t *testing.T, x mixed) []state {
	t.Helper()
	x.c.Until = 0
	run, err := crew.Run(x.c, newBoth(t, x.slots, x.workers))
	if err != api.OK {
		t.Fatalf("%+v: %v", x, err)
	}
	list := []state{newBoth(t, x.slots, x.workers).state()}
	for until := 1; until <= run.Steps; until++ {
		b := newBoth(t, x.slots, x.workers)
		x.c.Until = until
		crew.Run(x.c, b)
		list = append(list, b.state())
	}
	return list
}

// seen: what checkWithin found.
type seen struct{ stays, moved, stale, held int }

// checkWithin: as long as somebody is within, now goes on by 1 at most, and nothing goes that was retired behind its Enter's second line.
func checkWithin(t *testing.T, x mixed) seen {
	t.Helper()
	var found seen
	list := film(t, x)
	for k := range list[0].at {
		for i := 1; i < len(list); i++ {
			if list[i].at[k] == 0 || list[i-1].at[k] != 0 {
				continue
			}
			found.stays++
			if list[i].at[k] < list[i].now {
				found.stale++
			}
			checkStay(t, x, list[i:], k, &found)
		}
	}
	return found
}

// checkStay: of worker k, which is within from the first one of these moments on.
func checkStay(t *testing.T, x mixed, list []state, k int, found *seen) {
	t.Helper()
	first := list[0]
	waited := map[int]bool{}
	for _, h := range slices.Concat(first.lists...) {
		waited[h] = true
	}
	var held []int
	for _, s := range list {
		if s.at[k] == 0 {
			break
		}
		if s.at[k] != first.at[k] || s.now < first.now || s.now > first.now+1 {
			t.Fatalf("P11.10: %+v: worker %d is within since %+v: %+v", x, k, first, s)
		}
		for _, h := range slices.Concat(s.lists...) {
			if !waited[h] {
				waited[h] = true
				held = append(held, h)
			}
		}
		for _, h := range held {
			if s.gens[h>>40-1] != h%(1<<40) || slices.Contains(s.free, h>>40) {
				t.Fatalf("P11.10: %+v: worker %d is within since %+v: %d was given back: %+v", x, k, first, h, s)
			}
		}
		if s.now > first.now {
			found.moved++
		}
	}
	found.held += len(held)
}

func (s *seen) add(o seen) {
	s.stays += o.stays
	s.moved += o.moved
	s.stale += o.stale
	s.held += o.held
}

func TestNowOfWhoIsWithin(t *testing.T) {
	var all seen
	mixedPlays(600, manners{}, func(x mixed) { all.add(checkWithin(t, x)) })
	if all.stays < 500 || all.moved < 500 || all.stale < 20 || all.held < 200 {
		t.Errorf("the cases are too plain: %+v", all)
	}
}

// Every order of an Enter and of Advances that others are in the midst of.
func TestNowInEveryOrder(t *testing.T) {
	var all seen
	for _, calls := range [][][]api.Call{
		{{enter(), load()}, {advance(), advance(), advance()}},
		{{enter(), collect()}, {fresh(), advance(), advance(), collect()}},
		{{enter(), leave(), enter()}, {advance(), fresh(), advance(), collect()}},
	} {
		orders(2, 8, func(turns []int) {
			all.add(checkWithin(t, mixed{2, 2, api.Case{Work: calls, Turns: turns}}))
		})
	}
	calls := [][]api.Call{{enter()}, {advance(), advance()}, {advance(), fresh(), collect()}}
	orders(3, 6, func(turns []int) {
		all.add(checkWithin(t, mixed{2, 3, api.Case{Work: calls, Turns: turns}}))
	})
	if all.stale < 100 || all.moved < 100 {
		t.Errorf("the cases are too plain: %+v", all)
	}
}

// Somebody who is halted within holds back what is retired behind that, for good, whatever others do.
func TestHeldBack(t *testing.T) {
	for at := 1; at <= 4; at++ {
		c := work([]api.Call{enter()}, slices.Repeat([]api.Call{fresh(), advance(), advance(), advance(), collect()}, 12))
		c.Turns, c.Halt = append(slices.Repeat([]int{1}, 4*at), 0, 0), []int{2}
		run, left := wantModel(t, "P11.10: held back", 5, 2, c)
		if run.Cut || left.now > left.at[0]+3 {
			t.Fatalf("P11.10: %+v, %+v", run, left)
		}
		full := 0
		for _, a := range run.Answers[1] {
			if a.Err == api.ErrPoolFull {
				full++
			}
		}
		if full < 3 || len(left.free) != 0 {
			t.Errorf("P11.10: the pool isn't full in the end: %+v, %+v", run, left)
		}
	}
}

// rest: nobody is within. An Advance alone is done; two of them, and a Collect, empty each list.
func (b both) rest(t *testing.T, promise string) {
	t.Helper()
	now, workers := b.e.Now(), len(b.e.At())
	for i := range 2 {
		// Whoever does it: Advance is the same by every worker.
		a := b.by(t, (now+i)%workers, advance())[0]
		if !a.Ok || a.Own != workers+2 || b.e.Now() != now+1+i {
			t.Fatalf("%s: Advance %d: %+v, now %d", promise, i, a, b.e.Now())
		}
	}
	for k := range workers {
		waiting := len(b.e.Waiting(k))
		if a := b.by(t, k, collect())[0]; !sameAnswer(a, counted(waiting)) || len(b.e.Waiting(k)) != 0 {
			t.Fatalf("%s: Collect of worker %d, %d waited: %+v", promise, k, waiting, a)
		}
	}
}

func TestListsBecomeEmpty(t *testing.T) {
	waited := 0
	mixedPlays(3000, manners{wild: true, named: true}, func(x mixed) {
		x.c.Halt, x.c.Until = nil, 0
		_, b := wantNamed(t, "P11.11", x.slots, x.workers, x.c)
		for k, at := range b.e.At() {
			for at > 0 && b.by(t, k, leave())[0].Err == api.OK {
			}
			waited += len(b.e.Waiting(k))
		}
		b.rest(t, "P11.11")
	})
	if waited < 1000 {
		t.Errorf("the cases are too plain: %d waited", waited)
	}
}

// Halted workers are buried first, by one who lives: what they had in hand, a slot each at most, is all that doesn't come back.
func TestListsBecomeEmptyBehindHalts(t *testing.T) {
	lost := 0
	mixedPlays(2000, manners{}, func(x mixed) {
		x.c.Until = 0
		if len(x.c.Halt) > 0 {
			x.c.Halt[0] = 0
		}
		run, b := wantNamed(t, "P11.12", x.slots, x.workers, x.c)
		for k := 1; k < x.workers; k++ {
			b.do(t, of(0, bury(k))...)
		}
		for b.by(t, 0, leave())[0].Err == api.OK {
		}
		b.rest(t, "P11.11")
		missing := x.slots - len(b.p.Free())
		if missing > len(run.Open) {
			t.Fatalf("P11.11: %+v: %d slots aren't free, open %+v", x, missing, run.Open)
		}
		lost += missing
	})
	if lost == 0 {
		t.Error("the cases are too plain: nobody was halted with something in hand")
	}
}

// loose does f by so many workers, without turns; all have come when they begin.
func loose(t *testing.T, promise string, workers int, f func(w *crew.Worker) []int) {
	t.Helper()
	var come atomic.Int64
	c := api.Case{Work: slices.Repeat([][]api.Call{{{}}}, workers)}
	answers, err := crew.Loose(c, does(func(w *crew.Worker, _ api.Call) api.Answer {
		come.Add(1)
		for come.Load() < int64(workers) {
			runtime.Gosched()
		}
		return api.Answer{Ints: f(w)}
	}))
	if err != api.OK || len(answers) != workers {
		t.Fatalf("Loose: %v, %v", answers, err)
	}
	for k, list := range answers {
		if len(list) != 1 || list[0].Err != api.OK || len(list[0].Ints) > 0 {
			t.Fatalf("%s: worker %d finds %+v", promise, k, list)
		}
	}
}

const often = 3000

// nodeOf: a node that tells its Take.
func nodeOf(worker, round int) api.Node {
	return api.Node{A: worker, B: round, C: -round, D: worker*often + round}
}

func isNode(x api.Node) bool { return x == nodeOf(x.A, x.B) }

// readRoot reads, within, by a handle that may be replaced meanwhile: it is never given back.
func readRoot(b both, w *crew.Worker, root *atomic.Int64) bool {
	b.e.Enter(w)
	defer b.e.Leave(w)
	h := int(root.Load())
	for range 3 {
		if x, err := b.p.Read(w, h); err != api.OK || !isNode(x) {
			return false
		}
		runtime.Gosched()
	}
	return true
}

// writeRoot puts another node in the place of a root's, and lets that wait.
func writeRoot(b both, w *crew.Worker, root *atomic.Int64, round int) bool {
	h, err := b.p.Take(w, nodeOf(w.Number(), round), 0)
	if err == api.OK {
		return b.e.Retire(w, int(root.Swap(int64(h)))) == api.OK
	}
	b.e.Advance(w)
	b.e.Collect(w)
	runtime.Gosched()
	return err == api.ErrPoolFull
}

// Without turns, too, nobody who is within meets a slot that was given back; and behind it all comes back.
func TestLooseReadersAndWriters(t *testing.T) {
	for _, workers := range []int{2, 3, 8} {
		const roots = 3
		b := newBoth(t, 40, workers)
		var root [roots]atomic.Int64
		for i := range root {
			h, _ := b.p.Take(nil, nodeOf(0, i), 0)
			root[i].Store(int64(h))
		}
		loose(t, "P11.10", workers, func(w *crew.Worker) []int {
			r := mixer(w.Number())
			for round := range often {
				i, ok := r.below(roots), true
				switch {
				case w.Number()%2 == 0:
					ok = writeRoot(b, w, &root[i], round)
				case r.below(8) == 0:
					b.e.Advance(w)
				default:
					ok = readRoot(b, w, &root[i])
				}
				if !ok {
					return []int{round, i}
				}
				if r.below(4) == 0 {
					b.e.Advance(w)
					b.e.Collect(w)
				}
			}
			return nil
		})
		if !slices.Equal(b.e.At(), make([]int, workers)) || b.p.Faults() != 0 {
			t.Fatalf("P11.10: %v, %d faults", b.e.At(), b.p.Faults())
		}
		b.rest(t, "P11.11")
		if used := 40 - len(b.p.Free()); used != roots {
			t.Errorf("P11.11: %d slots are in use", used)
		}
	}
}

// Each epoch is come to by one Advance.
func TestLooseAdvances(t *testing.T) {
	b := newBoth(t, 1, 8)
	var done atomic.Int64
	loose(t, "P11.5", 8, func(w *crew.Worker) []int {
		last := 1
		for round := range often {
			if b.e.Advance(w) {
				done.Add(1)
			}
			now := b.e.Load(w)
			if now < last {
				return []int{round, now, last}
			}
			last = now
		}
		return nil
	})
	if now := b.e.Now(); now != 1+int(done.Load()) || now < 2 {
		t.Errorf("P11.5: now %d, %d were done", now, done.Load())
	}
}

// Without turns, too, now goes on by 1 at most behind who is within; who is Stalled is told.
func TestLooseNow(t *testing.T) {
	b := newBoth(t, 1, 8)
	loose(t, "P11.10", 8, func(w *crew.Worker) []int {
		for round := range often {
			if w.Number()%2 == 0 {
				b.e.Advance(w)
				continue
			}
			b.e.Enter(w)
			first := b.e.Load(w)
			for range 4 {
				runtime.Gosched()
				if now := b.e.Load(w); now > first+1 || now < first {
					return []int{round, first, now}
				}
			}
			for _, j := range b.e.Stalled(w) {
				if j%2 == 0 {
					return []int{round, j}
				}
			}
			if b.e.Leave(w) != api.OK {
				return []int{round}
			}
		}
		return nil
	})
	if !slices.Equal(b.e.At(), make([]int, 8)) {
		t.Errorf("P11.3: %v", b.e.At())
	}
}

// Depths and lists are each worker's own.
func TestLooseOwn(t *testing.T) {
	b := newBoth(t, 1, 8)
	loose(t, "P11.4", 8, func(w *crew.Worker) []int {
		k := w.Number()
		for i := range 500 {
			b.e.Enter(w)
			b.e.Retire(w, k*1000+i)
		}
		for i := range 500 {
			if err := b.e.Leave(w); err != api.OK {
				return []int{i, int(err)}
			}
		}
		if b.e.Leave(w) != api.ErrEpochOut {
			return []int{k}
		}
		return nil
	})
	for k := range 8 {
		want := upTo(500)
		for i := range want {
			want[i] = k*1000 + i
		}
		if got := b.e.Waiting(k); !slices.Equal(got, want) {
			t.Errorf("P11.4: worker %d: %v", k, got)
		}
	}
	b.rest(t, "P11.11")
}

// A worker that has done all that it does is buried by another one, while the others go on.
func TestLooseBury(t *testing.T) {
	for range 50 {
		b := newBoth(t, 30, 4)
		var over atomic.Bool
		loose(t, "P11.12", 4, func(w *crew.Worker) []int {
			switch w.Number() {
			case 0:
				b.e.Enter(w)
				for range 10 {
					h, _ := b.p.Take(w, api.Node{}, 0)
					b.e.Retire(w, h)
				}
				over.Store(true)
			case 1:
				for !over.Load() {
					b.e.Retire(w, 0)
					runtime.Gosched()
				}
				if b.e.Bury(w, 0) != api.OK {
					return []int{0}
				}
				for len(b.p.Look(w)) < 30 {
					b.e.Advance(w)
					b.e.Collect(w)
					runtime.Gosched()
				}
			default:
				for range 200 {
					b.e.Enter(w)
					b.e.Advance(w)
					b.e.Stalled(w)
					b.e.Leave(w)
				}
			}
			return nil
		})
		if at := b.e.At(); !slices.Equal(at, make([]int, 4)) || len(b.e.Waiting(0)) != 0 {
			t.Fatalf("P11.12: %v, %v", at, b.e.Waiting(0))
		}
		b.rest(t, "P11.11")
	}
}

// What nobody within can reach is given back while others are within.
func TestLooseSlotsComeBack(t *testing.T) {
	b := newBoth(t, 60, 4)
	var taken atomic.Int64
	loose(t, "P11.11", 4, func(w *crew.Worker) []int {
		for range often {
			b.e.Enter(w)
			if h, err := b.p.Take(w, api.Node{}, 0); err == api.OK {
				taken.Add(1)
				b.e.Retire(w, h)
			}
			b.e.Leave(w)
			b.e.Advance(w)
			b.e.Collect(w)
		}
		return nil
	})
	if taken.Load() < 120 {
		t.Errorf("P11.11: %d Takes of a pool of 60", taken.Load())
	}
	b.rest(t, "P11.11")
	if free := b.p.Free(); len(free) != 60 {
		t.Errorf("P11.11: %d are free", len(free))
	}
}
