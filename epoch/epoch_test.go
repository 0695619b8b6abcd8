package epoch_test

import (
	"fmt"
	"runtime"
	"slices"
	"testing"

	"skein/api"
	"skein/crew"
	"skein/epoch"
)

// after makes epochs and does calls, each by its worker.
func after(t *testing.T, slots, workers int, calls ...named) both {
	t.Helper()
	b := newBoth(t, slots, workers)
	b.do(t, calls...)
	return b
}

// named: a call, and whose it is.
type named struct {
	k    int
	call api.Call
}

func of(k int, calls ...api.Call) []named {
	var list []named
	for _, c := range calls {
		list = append(list, named{k, c})
	}
	return list
}

// many: a call several times.
func many(times int, c api.Call) []api.Call { return slices.Repeat([]api.Call{c}, times) }

func (b both) do(t *testing.T, calls ...named) {
	t.Helper()
	for _, c := range calls {
		b.by(t, c.k, c.call)
	}
}

// wants does a call and asks for its answer, its lines and what is there behind it.
func (b both) wants(t *testing.T, promise string, k int, c api.Call, want api.Answer, lines int, left state) {
	t.Helper()
	if a := b.by(t, k, c)[0]; !sameAnswer(a, want) || a.Own != lines {
		t.Fatalf("%s: %+v of worker %d: %+v, want %+v in %d lines", promise, c, k, a, want, lines)
	}
	wantState(t, promise, b, left)
}

func good() api.Answer                { return api.Answer{Ok: true} }
func counted(n int) api.Answer        { return api.Answer{Ok: true, N: n} }
func failed(err api.Errno) api.Answer { return api.Answer{Err: err} }

func TestFirstExample(t *testing.T) {
	b := newBoth(t, 3, 2)
	s := newState(3, 2)
	s.at[0] = 1
	b.wants(t, "example 1", 0, enter(), good(), 2, s)
	s.gens[0], s.free, s.lists[1] = 1, []int{2, 3}, []int{word(1, 1)}
	b.wants(t, "example 1", 1, fresh(), counted(1), 4, s)
	s.now = 2
	b.wants(t, "example 1", 1, advance(), good(), 4, s)
	b.wants(t, "example 1: at[0] is 1", 1, advance(), api.Answer{}, 2, s)
	b.wants(t, "example 1: too early", 1, collect(), counted(0), 1, s)
	s.at[0] = 0
	b.wants(t, "example 1", 0, leave(), good(), 1, s)
	s.now = 3
	b.wants(t, "example 1", 1, advance(), good(), 4, s)
	s.now = 4
	b.wants(t, "example 1", 1, advance(), good(), 4, s)
	s.gens[0], s.free, s.lists[1] = 2, []int{1, 2, 3}, nil
	b.wants(t, "example 1", 1, collect(), counted(1), 5, s)
	s.gens[0], s.free, s.lists[0] = 3, []int{2, 3}, []int{word(1, 3)}
	b.wants(t, "example 1: taken again first", 0, fresh(), counted(1), 4, s)
}

func TestSecondExample(t *testing.T) {
	b := newBoth(t, 1, 2)
	c := work([]api.Call{enter()}, many(3, advance()))
	c.Turns = append([]int{0}, slices.Repeat([]int{1}, 12)...)
	run, err := crew.Run(c, b)
	if err != api.OK || len(run.Answers[0]) != 1 || len(run.Answers[1]) != 3 {
		t.Fatalf("example 2: %+v, %v", run, err)
	}
	for _, a := range run.Answers[1] {
		if !a.Ok {
			t.Errorf("example 2: Advance: %+v", a)
		}
	}
	s := newState(1, 2)
	s.now, s.at[0] = 4, 1
	wantState(t, "example 2: a stale Enter", b, s)
	b.wants(t, "example 2", 1, advance(), api.Answer{}, 2, s)
	b.wants(t, "example 2", 1, stalled(), api.Answer{Ok: true, Ints: []int{0}}, 3, s)
}

func TestThirdExample(t *testing.T) {
	b := newBoth(t, 1, 1)
	in, out := newState(1, 1), newState(1, 1)
	in.at[0] = 1
	b.wants(t, "example 3", 0, leave(), failed(api.ErrEpochOut), 1, out)
	b.wants(t, "example 3", 0, enter(), good(), 2, in)
	b.wants(t, "example 3", 0, enter(), good(), 1, in)
	b.wants(t, "example 3: within still", 0, leave(), good(), 1, in)
	b.wants(t, "example 3: not", 0, leave(), good(), 1, out)
	b.wants(t, "example 3", 0, leave(), failed(api.ErrEpochOut), 1, out)
}

func TestNew(t *testing.T) {
	for given, workers := range workersOf {
		b := newBoth(t, 2, given)
		wantState(t, fmt.Sprintf("P11.1: New of %d workers", given), b, newState(2, workers))
		for k := range 8 {
			want := failed(api.ErrEpochWorker)
			if k < workers {
				want = good()
			}
			if a := b.by(t, k, enter())[0]; !sameAnswer(a, want) {
				t.Errorf("P11.1: New of %d workers: Enter of worker %d: %+v", given, k, a)
			}
		}
		if at := b.e.At(); !slices.Equal(at, slices.Repeat([]int{1}, workers)) {
			t.Errorf("P11.1: New of %d workers: all are within: %v", given, at)
		}
	}
}

// Alone, without a worker, whoever calls is worker 0.
func TestAloneIsWorkerNull(t *testing.T) {
	for _, workers := range []int{1, 2, 8} {
		b := newBoth(t, 1, workers)
		e := b.e
		if e.Leave(nil) != api.ErrEpochOut || e.Enter(nil) != api.OK || e.At()[0] != 1 || e.Retire(nil, 7) != api.OK || !slices.Equal(e.Waiting(0), []int{7}) {
			t.Errorf("rule 10: %+v", b.state())
		}
		if !e.Advance(nil) || e.Advance(nil) || e.Load(nil) != 2 || !slices.Equal(e.Stalled(nil), []int{0}) || e.Leave(nil) != api.OK || !e.Advance(nil) {
			t.Errorf("rule 10: %+v", b.state())
		}
		if n, err := e.Collect(nil); n != 1 || err != api.OK || e.Bury(nil, 0) != api.ErrEpochWorker {
			t.Errorf("rule 10: Collect %d, %v", n, err)
		}
		for k := 1; k < workers; k++ {
			if e.Bury(nil, k) != api.OK {
				t.Errorf("rule 10: Bury(%d)", k)
			}
		}
	}
}

// What a worker that is none of it calls: one line, an answer of its own, and nothing is changed by it.
func TestNoWorkerOfIt(t *testing.T) {
	for workers := 1; workers < 8; workers++ {
		for k := workers; k < 8; k++ {
			b := after(t, 3, workers, of(0, enter(), fresh(), advance(), advance())...)
			was := b.state()
			for _, c := range []api.Call{enter(), leave(), retire(word(1, 1)), retire(0), collect(), fresh(), bury(0), bury(k), bury(workers - 1), bury(-1), bury(lowest)} {
				b.wants(t, "no worker of it", k, c, failed(api.ErrEpochWorker), 1, was)
			}
			run, err := crew.Run(api.Case{Work: append(make([][]api.Call, k), make([]api.Call, 8))}, does(func(w *crew.Worker, c api.Call) api.Answer {
				n, err := b.e.Collect(w)
				return api.Answer{Ok: b.e.Advance(w), N: b.e.Load(w) + n, Ints: b.e.Stalled(w), Err: b.e.Leave(w) + b.e.Enter(w) + b.e.Retire(w, 1) + b.e.Bury(w, 0) + err}
			}))
			if err != api.OK || run.Steps != 8*8 {
				t.Fatalf("no worker of it: %d lines, %v", run.Steps, err)
			}
			for _, a := range run.Answers[k] {
				if !sameAnswer(a, failed(5*api.ErrEpochWorker)) {
					t.Errorf("no worker of it: worker %d of %d: %+v", k, workers, a)
				}
			}
			wantState(t, "no worker of it", b, was)
		}
	}
}

// wantLines does a call and looks behind each of its lines.
func (b both) wantLines(t *testing.T, promise string, k int, call api.Call, want api.Answer, moments ...state) {
	t.Helper()
	var seen []state
	spy := does(func(w *crew.Worker, c api.Call) api.Answer {
		if w.Number() == k {
			return b.Do(w, c)
		}
		seen = append(seen, b.state())
		return api.Answer{}
	})
	looks := make([]api.Call, len(moments))
	c := work(looks, []api.Call{call})
	turn := 1
	if k == 0 {
		c, turn = work([]api.Call{call}, looks), 0
	}
	for range moments {
		c.Turns = append(c.Turns, turn, 1-turn)
	}
	run, err := crew.Run(c, spy)
	if err != api.OK || len(run.Answers[k]) != 1 || run.Steps != 2*len(moments) {
		t.Fatalf("%s: %+v: %+v, %v", promise, call, run, err)
	}
	if a := run.Answers[k][0]; !sameAnswer(a, want) || a.Own != len(moments) {
		t.Errorf("%s: %+v: %+v, want %+v in %d lines", promise, call, a, want, len(moments))
	}
	for i, m := range moments {
		if !seen[i].same(m) {
			t.Errorf("%s: %+v: behind line %d: %+v, want %+v", promise, call, i+1, seen[i], m)
		}
	}
}

func TestLinesOfEnterAndLeave(t *testing.T) {
	for k := range 2 {
		for now := 1; now <= 4; now++ {
			b := after(t, 1, 2, of(1-k, many(now-1, advance())...)...)
			out, in := newState(1, 2), newState(1, 2)
			out.now, in.now, in.at[k] = now, now, now
			b.wantLines(t, "P11.3: not within", k, leave(), failed(api.ErrEpochOut), out)
			b.wantLines(t, "P11.2", k, enter(), good(), out, in)
			for range 3 {
				b.wantLines(t, "P11.2: within", k, enter(), good(), in)
			}
			for range 3 {
				b.wantLines(t, "P11.3: deeper", k, leave(), good(), in)
			}
			b.wantLines(t, "P11.3", k, leave(), good(), out)
			b.wantLines(t, "P11.3: not within", k, leave(), failed(api.ErrEpochOut), out)
		}
	}
}

// Whoever is within stays in the epoch in which it entered, however deep it goes and wherever now is; behind its last Leave it enters anew.
func TestDeeperIsWithinSince(t *testing.T) {
	b := newBoth(t, 1, 2)
	b.do(t, of(0, enter())...)
	b.do(t, of(1, advance())...)
	s := newState(1, 2)
	s.now, s.at[0] = 2, 1
	b.wants(t, "P11.2: deeper, in a later epoch", 0, enter(), good(), 1, s)
	b.wants(t, "P11.3: less deep, in a later epoch", 0, leave(), good(), 1, s)
	s.at[0] = 0
	b.wants(t, "P11.3", 0, leave(), good(), 1, s)
	s.at[0] = 2
	b.wants(t, "P11.2: anew", 0, enter(), good(), 2, s)
}

func TestDepth(t *testing.T) {
	r := mixer(5)
	b := newBoth(t, 1, 3)
	depth := make([]int, 3)
	for range 600 {
		k, s := r.below(3), newState(1, 3)
		call, want, lines := enter(), good(), 1
		if r.below(2) == 0 {
			call = leave()
			if depth[k] == 0 {
				want = failed(api.ErrEpochOut)
			}
			depth[k] = max(depth[k]-1, 0)
		} else {
			if depth[k] == 0 {
				lines = 2
			}
			depth[k]++
		}
		for j, d := range depth {
			s.at[j] = min(d, 1)
		}
		b.wants(t, "P11.2, P11.3", k, call, want, lines, s)
	}
	e := b.e
	for range 5000 {
		e.Enter(nil)
	}
	for range 5000 + depth[0] - 1 {
		e.Leave(nil)
	}
	if e.At()[0] != 1 || e.Leave(nil) != api.OK || e.At()[0] != 0 || e.Leave(nil) != api.ErrEpochOut {
		t.Errorf("P11.3: behind 5000 Enters: %v", e.At())
	}
}

// broken does a call of worker 0, broken off behind so many lines by the others, which are worker 1's.
func (b both) broken(t *testing.T, call api.Call, at int, others ...api.Call) (api.Answer, []api.Answer) {
	t.Helper()
	c := work([]api.Call{call}, others)
	c.Turns = append(make([]int, at), slices.Repeat([]int{1}, 400)...)
	run, err := crew.Run(c, b)
	if err != api.OK || run.Cut || len(run.Answers[0]) != 1 || len(run.Answers[1]) != len(others) {
		t.Fatalf("%+v, broken off behind %d lines: %+v, %v", call, at, run, err)
	}
	return run.Answers[0][0], run.Answers[1]
}

// An Enter between whose two lines now goes on: it is within since what it loaded.
func TestStaleEnter(t *testing.T) {
	for at := range 3 {
		for goes := range 5 {
			b := newBoth(t, 1, 2)
			a, others := b.broken(t, enter(), at, many(goes, advance())...)
			s := newState(1, 2)
			s.at[0], s.now = 1, 1+goes
			switch at {
			case 0:
				s.at[0] = s.now
			case 2:
				s.now = min(s.now, 2)
			}
			wantState(t, "P11.2: broken off", b, s)
			if !sameAnswer(a, good()) || a.Own != 2 {
				t.Errorf("P11.2: broken off behind %d lines: %+v", at, a)
			}
			for i, o := range others {
				if o.Ok != (at < 2 || i == 0) {
					t.Errorf("P11.5: Advance %d, the Enter was broken off behind %d lines: %+v", i, at, o)
				}
			}
			behind := s.at[0] != s.now
			b.wants(t, "P11.5: behind it", 1, advance(), api.Answer{Ok: !behind}, map[bool]int{true: 2, false: 4}[behind], map[bool]state{true: s, false: later(s)}[behind])
		}
	}
}

// later: the same in the next epoch.
func later(s state) state {
	s.now++
	return s
}

var anyNumbers = append(noHandles(3), word(1, 1), word(1, 1), word(3, 1), word(2, 5), 42, 42)

func TestRetire(t *testing.T) {
	for _, within := range []bool{false, true} {
		b := newBoth(t, 3, 2)
		s := newState(3, 2)
		for i, h := range anyNumbers {
			if within && s.at[0] != s.now {
				if s.at[0] > 0 {
					b.do(t, of(0, leave())...)
				}
				b.do(t, of(0, enter())...)
				s.at[0] = s.now
			}
			s.lists[0] = append(s.lists[0], h)
			b.wantLines(t, "P11.4", 0, retire(h), good(), s)
			if i%3 == 0 {
				s.lists[1] = append(s.lists[1], -h)
				b.wantLines(t, "P11.4: of another list", 1, retire(-h), good(), s)
			}
			if i%4 == 0 {
				s.now++
				b.do(t, of(1, advance())...)
				wantState(t, "P11.5: lists stay", b, s)
			}
		}
	}
}

// Each handle waits since the epoch in which it was retired.
func TestRetiredSince(t *testing.T) {
	b := newBoth(t, 1, 1)
	s := newState(1, 1)
	for i := range 6 {
		for _, h := range []int{10 * i, 10*i + 1} {
			s.lists[0] = append(s.lists[0], h)
			b.wants(t, "P11.4", 0, retire(h), good(), 1, s)
		}
		went, lines := 0, 1
		if i >= 2 {
			went, lines = 2, 3
			s.lists[0] = s.lists[0][2:]
		}
		b.wants(t, "P11.6: of two epochs ago", 0, collect(), counted(went), lines, s)
		s = later(s)
		b.wants(t, "P11.5", 0, advance(), good(), 3, s)
	}
}

// The line that retires loads now: what was loaded ahead of it counts for nothing.
func TestEpochOfARetire(t *testing.T) {
	for at := range 5 {
		b := newBoth(t, 1, 2)
		b.broken(t, fresh(), at, many(3, advance())...)
		since := 4
		if at == 4 {
			since = 1
		}
		for b.e.Now() < since+1 {
			b.do(t, of(1, advance())...)
		}
		n, _ := b.e.Collect(nil)
		b.do(t, of(1, advance())...)
		k, _ := b.e.Collect(nil)
		if n != map[bool]int{true: 1}[at == 4] || n+k != 1 {
			t.Errorf("P11.4: broken off behind %d lines: it goes %d, then %d", at, n, k)
		}
	}
}

func TestLinesOfAdvance(t *testing.T) {
	for workers := 1; workers <= 8; workers++ {
		b := newBoth(t, 1, workers)
		s := newState(1, workers)
		for range 3 {
			moments := append(slices.Repeat([]state{s}, workers+1), later(s))
			b.wantLines(t, "P11.5: nobody within", 0, advance(), good(), moments...)
			s = later(s)
		}
		for k := range workers {
			b.do(t, of(k, enter())...)
			s.at[k] = s.now
		}
		moments := append(slices.Repeat([]state{s}, workers+1), later(s))
		b.wantLines(t, "P11.5: all of this epoch", 0, advance(), good(), moments...)
		s = later(s)
		// One behind the other they leave, so the first one of an elder epoch is the next one each time.
		for k := range workers {
			b.wantLines(t, "P11.5: an elder one", 0, advance(), api.Answer{}, slices.Repeat([]state{s}, k+2)...)
			b.do(t, of(k, leave())...)
			s.at[k] = 0
		}
		b.wantLines(t, "P11.5: nobody within any more", 0, advance(), good(), append(slices.Repeat([]state{s}, workers+1), later(s))...)
	}
}

// Its own being within counts as anybody's.
func TestAdvanceOfWhoIsWithin(t *testing.T) {
	for k := range 3 {
		b := after(t, 1, 3, of(k, enter())...)
		s := newState(1, 3)
		s.at[k] = 1
		b.wants(t, "P11.5: within", k, advance(), good(), 5, later(s))
		b.wants(t, "P11.5: within since an elder epoch", k, advance(), api.Answer{}, k+2, later(s))
	}
}

// Each at[j] is loaded by a line of its own: who enters ahead of that line is met, who enters behind it isn't.
func TestAdvanceMeets(t *testing.T) {
	for at := range 5 {
		// Worker 1's stale Enter has its first line behind it: its second one is of an elder epoch, whenever it comes.
		b := newBoth(t, 1, 2)
		c := work([]api.Call{advance(), advance()}, []api.Call{enter()})
		c.Turns = append(append([]int{1}, make([]int, 4+at)...), 1)
		run, err := crew.Run(c, b)
		if err != api.OK || len(run.Answers[0]) != 2 {
			t.Fatalf("P11.5: %+v, %v", run, err)
		}
		met := at < 3
		if a := run.Answers[0][1]; a.Ok == met || a.Own != map[bool]int{true: 3, false: 4}[met] {
			t.Errorf("P11.5: a stale Enter behind %d lines: %+v", at, a)
		}
	}
	for at, own := range []int{4, 4, 4, 3} {
		// Worker 1 is within of an elder epoch, and leaves; the Advance meets it in its line 3.
		b := after(t, 1, 2, append(of(1, enter()), of(0, advance())...)...)
		a, _ := b.broken(t, advance(), at, leave())
		if a.Ok != (own == 4) || a.Own != own {
			t.Errorf("P11.5: a Leave behind %d lines: %+v", at, a)
		}
	}
}

// A cas fails, if another Advance was done meanwhile: also if all that it met was well.
func TestAdvanceThatComesLate(t *testing.T) {
	for at := range 5 {
		b := newBoth(t, 1, 2)
		a, others := b.broken(t, advance(), at, advance())
		late := at > 0 && at < 4
		if a.Ok == late || a.Own != 4 || !others[0].Ok || b.e.Now() != map[bool]int{true: 2, false: 3}[late] {
			t.Errorf("P11.5: another Advance behind %d lines: %+v, %+v, now %d", at, a, others, b.e.Now())
		}
	}
}

func TestCollectOfNothing(t *testing.T) {
	b := newBoth(t, 2, 2)
	s := newState(2, 2)
	b.wantLines(t, "P11.6: an empty list", 0, collect(), counted(0), s)
	b.do(t, of(1, fresh())...)
	s = b.state()
	for range 2 {
		b.wantLines(t, "P11.6: another one's list", 0, collect(), counted(0), s)
		b.wantLines(t, "P11.6: too early", 1, collect(), counted(0), s)
		b.do(t, of(0, advance())...)
		s = later(s)
	}
	b.wantLines(t, "P11.6: another one's list", 0, collect(), counted(0), s)
}

// What is given goes out of the list with the last of Give's lines, one behind the other, in the order in which they were retired.
func TestLinesOfCollect(t *testing.T) {
	b := after(t, 3, 2, append(of(0, fresh(), fresh(), fresh()), of(1, advance(), advance())...)...)
	one, two, three := word(1, 1), word(2, 1), word(3, 1)
	at := func(free []int, gens []int, list ...int) state {
		return state{now: 3, at: []int{0, 0}, lists: [][]int{list, nil}, gens: gens, free: free}
	}
	first := at(nil, []int{1, 1, 1}, one, two, three)
	a, a1 := at(nil, []int{2, 1, 1}, one, two, three), at([]int{1}, []int{2, 1, 1}, two, three)
	c, c1 := at([]int{1}, []int{2, 2, 1}, two, three), at([]int{2, 1}, []int{2, 2, 1}, three)
	d, d1 := at([]int{2, 1}, []int{2, 2, 2}, three), at([]int{3, 2, 1}, []int{2, 2, 2})
	b.wantLines(t, "P11.6", 0, collect(), counted(3), first, a, a, a, a1, c, c, c, c1, d, d, d, d1)
	b.wantLines(t, "P11.6: all went", 0, collect(), counted(0), d1)
}

// Of what something may go that goes, and the rest stays in its order.
func TestCollectOfSome(t *testing.T) {
	b := newBoth(t, 4, 1)
	s := newState(4, 1)
	for i := range 4 {
		b.do(t, of(0, fresh(), advance())...)
		s.lists[0] = append(s.lists[0], word(i+1, 1))
		s.gens[i] = 1
	}
	s.now, s.free, s.lists[0] = 5, []int{3, 2, 1}, s.lists[0][3:]
	s.gens = []int{2, 2, 2, 1}
	b.wants(t, "P11.6: some", 0, collect(), counted(3), 13, s)
	b.wants(t, "P11.6: the rest is too young", 0, collect(), counted(0), 1, s)
	b.do(t, of(0, advance())...)
	s.now, s.free, s.lists[0], s.gens[3] = 6, []int{4, 3, 2, 1}, nil, 2
	b.wants(t, "P11.6: the rest", 0, collect(), counted(1), 5, s)
}

// Whatever Give answers, what was given goes; what is no handle, or was given back, does nothing to the pool.
func TestCollectOfWhatIsNone(t *testing.T) {
	b := newBoth(t, 2, 1)
	none := append(noHandles(2), word(1, 3), word(2, 1))
	h, _ := b.p.Take(nil, api.Node{}, 0)
	g, _ := b.p.Take(nil, api.Node{}, 0)
	b.p.Give(nil, g)
	for _, n := range none {
		b.e.Retire(nil, n)
	}
	// One handle twice: it is given back once.
	b.e.Retire(nil, h)
	b.e.Retire(nil, h)
	s := b.state()
	b.do(t, of(0, advance(), advance())...)
	s.now, s.lists[0], s.gens, s.free = 3, nil, []int{2, 2}, []int{1, 2}
	b.wants(t, "P11.6: whatever it answers", 0, collect(), counted(len(none)+2), 1+len(none)+4+1, s)
	if b.p.Slots()[0].Node.A != api.Poison {
		t.Errorf("P11.6: %+v", b.p.Slots())
	}
}

// What was given back, and taken again since, isn't given by the elder handle.
func TestCollectOfATakenAgain(t *testing.T) {
	b := after(t, 1, 2, of(0, fresh(), give(word(1, 1)))...)
	b.do(t, of(1, fresh(), advance(), advance())...)
	s := b.state()
	s.lists[0] = nil
	b.wants(t, "P11.6: taken again", 0, collect(), counted(1), 2, s)
	s.lists[1], s.gens, s.free = nil, []int{4}, []int{1}
	b.wants(t, "P11.6: its own", 1, collect(), counted(1), 5, s)
}

// now is loaded once, by the first line: what others do in between changes nothing of what goes.
func TestCollectBrokenOff(t *testing.T) {
	for at := range 10 {
		b := newBoth(t, 4, 2)
		b.do(t, of(0, fresh(), advance(), fresh(), advance(), fresh())...)
		a, _ := b.broken(t, collect(), at, advance(), advance(), fresh())
		went, lines := 1, 5
		switch at {
		case 0:
			went, lines = 3, 13
		case 3, 4:
			lines = 8 // the Take comes between Push's first line and its cas
		}
		if !sameAnswer(a, counted(went)) || a.Own != lines {
			t.Errorf("P11.6: broken off behind %d lines: %+v, want %d in %d lines", at, a, went, lines)
		}
		if left := b.e.Waiting(0); len(left) != 3-went || len(b.e.Waiting(1)) != 1 {
			t.Errorf("P11.6: broken off behind %d lines: %v, %v", at, left, b.e.Waiting(1))
		}
	}
}

// Who is halted within a Give has its handle in the list still, but for the last line.
func TestHaltedWithinAGive(t *testing.T) {
	for halt := 1; halt <= 9; halt++ {
		b := after(t, 2, 2, of(0, fresh(), fresh(), advance(), advance())...)
		c := work([]api.Call{collect()})
		c.Halt = []int{halt}
		run, err := crew.Run(c, b)
		left := [][]int{nil, {1, 2}, {1, 2}, {1, 2}, {1, 2}, {2}, {2}, {2}, {2}, {}}[halt]
		var slots []int
		for _, h := range b.e.Waiting(0) {
			slots = append(slots, h>>40)
		}
		if err != api.OK || run.Steps != halt || len(run.Open) != map[bool]int{true: 1}[halt < 9] || !slices.Equal(slots, left) {
			t.Fatalf("P11.6: halted behind %d lines: %+v, %v", halt, run, slots)
		}
		// Somebody of the same number goes on with what waits: of the one that was being given the Give's first line is done.
		s := b.state()
		lines, went := 1, len(left)
		for _, slot := range left {
			lines += map[bool]int{true: 4, false: 1}[s.gens[slot-1] == 1]
			if s.gens[slot-1] == 1 {
				s.free = append([]int{slot}, s.free...)
			}
		}
		s.lists[0], s.gens = nil, []int{2, 2}
		b.wants(t, "P11.6: behind one that was halted", 0, collect(), counted(went), lines, s)
		b.wants(t, "P11.6: behind that", 0, collect(), counted(0), 1, s)
	}
}

func TestLinesOfStalled(t *testing.T) {
	for workers := 1; workers <= 8; workers++ {
		b := newBoth(t, 1, workers)
		s := newState(1, workers)
		look := func(want ...int) {
			t.Helper()
			b.wantLines(t, "P11.7", 0, stalled(), api.Answer{Ok: true, Ints: want}, slices.Repeat([]state{s}, workers+1)...)
		}
		look()
		var elder []int
		for k := 0; k < workers; k += 2 {
			b.do(t, of(k, enter())...)
			s.at[k] = 1
			elder = append(elder, k)
		}
		look()
		b.do(t, of(0, advance())...)
		s = later(s)
		look(elder...)
		for k := 1; k < workers; k += 2 {
			b.do(t, of(k, enter())...)
			s.at[k] = 2
		}
		look(elder...)
		for len(elder) > 0 {
			k := elder[len(elder)/2]
			b.do(t, of(k, leave())...)
			s.at[k] = 0
			elder = slices.DeleteFunc(elder, func(j int) bool { return j == k })
			look(elder...)
		}
	}
}

// Which epoch Stalled goes by, and when it looks at whom.
func TestStalledBrokenOff(t *testing.T) {
	for at, want := range [][]int{{}, {1}, {1}, {}, {}} {
		// Worker 1 enters in the next epoch: who loaded the elder one meets it in its line 3 as another one's.
		b := newBoth(t, 1, 2)
		a, _ := b.broken(t, stalled(), at, advance(), enter())
		if !sameAnswer(a, api.Answer{Ok: true, Ints: want}) || a.Own != 3 {
			t.Errorf("P11.7: broken off behind %d lines: %+v, want %v", at, a, want)
		}
	}
	for at, want := range [][]int{{}, {}, {}, {1}} {
		b := after(t, 1, 2, append(of(1, enter()), of(0, advance())...)...)
		a, _ := b.broken(t, stalled(), at, leave())
		if !sameAnswer(a, api.Answer{Ok: true, Ints: want}) || a.Own != 3 {
			t.Errorf("P11.7: a Leave behind %d lines: %+v, want %v", at, a, want)
		}
	}
}

func TestLoad(t *testing.T) {
	b := newBoth(t, 1, 2)
	s := newState(1, 2)
	for range 5 {
		for k := range 2 {
			b.wantLines(t, "P11.12: Load", k, load(), counted(s.now), s)
		}
		b.do(t, of(1, advance())...)
		s = later(s)
	}
	b.do(t, of(0, enter())...)
	s.at[0] = s.now
	b.wantLines(t, "P11.12: Load within", 0, load(), counted(s.now), s)
}

func TestBuryRefuses(t *testing.T) {
	for workers := 1; workers <= 8; workers++ {
		b := after(t, 3, workers, of(workers-1, enter(), fresh())...)
		b.do(t, of(0, enter(), fresh(), advance())...)
		was := b.state()
		for k := range workers {
			for _, dead := range []int{lowest, lowest + 1, -1 << 32, -8, -2, -1, k, workers, workers + 1, 8, 9, 1 << 32, 1<<32 + 1, highest} {
				if dead >= 0 && dead < workers && dead != k {
					continue
				}
				if b.by(t, k, bury(dead))[0].Own != 1 {
					t.Errorf("P11.12: Bury(%d) of %d workers has more than a line", dead, workers)
				}
				b.wants(t, "P11.12: no worker of it, or its own", k, bury(dead), failed(api.ErrEpochWorker), 1, was)
			}
		}
	}
}

// Bury: who was within isn't any more, however deep; what waits for it waits for the caller, behind what waited for that already.
func TestBury(t *testing.T) {
	for _, within := range []int{0, 1, 3} {
		for _, theirs := range []int{0, 1, 2} {
			for _, own := range []int{0, 2} {
				b := newBoth(t, 4, 3)
				b.do(t, of(2, many(within, enter())...)...)
				b.do(t, of(2, many(theirs, fresh())...)...)
				b.do(t, of(0, many(own, fresh())...)...)
				b.do(t, of(1, enter(), retire(77))...)
				s := b.state()
				s.at[2] = 0
				s.lists[0], s.lists[2] = append(s.lists[0], s.lists[2]...), nil
				b.wantLines(t, "P11.12: Bury", 0, bury(2), good(), s)
				b.wantLines(t, "P11.12: Bury again", 0, bury(2), good(), s)
				b.wants(t, "P11.12: it isn't within", 2, leave(), failed(api.ErrEpochOut), 1, s)
				s.at[2] = 1
				b.wants(t, "P11.12: not deep either", 2, enter(), good(), 2, s)
			}
		}
	}
}

// What is adopted waits since when it was retired, so elder ones may stand behind younger ones: the first one of all that may go goes first.
func TestCollectOfWhatWasAdopted(t *testing.T) {
	b := newBoth(t, 8, 3)
	b.do(t, of(1, retire(11), fresh(), advance(), retire(12), advance())...)
	b.do(t, of(0, retire(1), fresh())...)
	b.do(t, of(2, retire(21), retire(22), advance(), retire(23))...)
	b.do(t, of(0, bury(1), retire(2), bury(2))...)
	s := b.state()
	one, two := word(1, 1), word(2, 1)
	s.lists = [][]int{{1, two, 11, one, 12, 2, 21, 22, 23}, nil, nil}
	s.now = 4
	wantState(t, "P11.12", b, s)
	// now 4: the epochs 1 and 2 may go.
	s.lists[0] = []int{1, two, 2, 21, 22, 23}
	s.gens[0], s.free = 2, []int{1, 3, 4, 5, 6, 7, 8}
	was := b.state()
	x, y := was, was
	x.lists = [][]int{{1, two, one, 12, 2, 21, 22, 23}, nil, nil}
	y.lists, y.gens = x.lists, s.gens
	z := y
	z.lists, z.free = [][]int{{1, two, 12, 2, 21, 22, 23}, nil, nil}, s.free
	b.wantLines(t, "P11.6: of what was adopted", 0, collect(), counted(3), was, x, y, y, y, z, s)
	b.wants(t, "P11.6: the others wait on", 0, collect(), counted(0), 1, s)
	b.do(t, of(1, advance())...)
	s.now = 5
	s.lists[0], s.gens[1], s.free = []int{2, 23}, 2, append([]int{2}, s.free...)
	b.wants(t, "P11.6: now 5", 0, collect(), counted(4), 1+1+4+1+1, s)
	b.do(t, of(1, advance())...)
	s.now, s.lists[0] = 6, nil
	b.wants(t, "P11.6: now 6", 0, collect(), counted(2), 3, s)
}

// A handle that somebody was halted in the midst of giving is adopted, and goes from its heir's list too; its slot stays lost.
func TestBuryOfWhoCollects(t *testing.T) {
	for halt := 1; halt <= 9; halt++ {
		b := after(t, 2, 2, of(0, fresh(), fresh(), advance(), advance())...)
		c := work([]api.Call{collect()})
		c.Halt = []int{halt}
		if _, err := crew.Run(c, b); err != api.OK {
			t.Fatal(err)
		}
		s := b.state()
		s.lists = [][]int{nil, s.lists[0]}
		b.wantLines(t, "P11.12: who was halted", 1, bury(0), good(), s)
		went, lines := len(s.lists[1]), 1
		for _, h := range s.lists[1] {
			if s.gens[h>>40-1] == 1 {
				s.free, lines = append([]int{h >> 40}, s.free...), lines+4
			} else {
				lines++
			}
		}
		s.lists[1], s.gens = nil, []int{2, 2}
		b.wants(t, "P11.12: its heir's Collect", 1, collect(), counted(went), lines, s)
	}
}

// Bury stores at[k] = 0 by its one line: an Advance that comes to k ahead of it stops there.
func TestBuryLetsOthersGoOn(t *testing.T) {
	for at, done := range []bool{true, true, true, false} {
		b := after(t, 1, 3, append(of(1, enter()), of(0, advance())...)...)
		c := work([]api.Call{advance()}, nil, []api.Call{bury(1)})
		c.Turns = append(make([]int, at), 1)
		run, err := crew.Run(c, b)
		if err != api.OK || len(run.Answers[0]) != 1 || run.Answers[0][0].Ok != done || b.e.At()[1] != 0 {
			t.Errorf("P11.12: Bury behind %d lines of an Advance: %+v, %v", at, run, err)
		}
	}
	b := after(t, 1, 2, append(of(1, enter()), of(0, advance(), retire(5), advance())...)...)
	if b.e.Now() != 2 {
		t.Fatalf("P11.5: now %d", b.e.Now())
	}
	b.do(t, of(0, bury(1), advance(), advance(), collect())...)
	if b.e.Now() != 4 || len(b.e.Waiting(0)) != 0 {
		t.Errorf("P11.12: behind a Bury: %+v", b.state())
	}
}

// A worker that is buried in the midst of a call, and goes on: no call falls, and the run ends.
func TestBuriedAlive(t *testing.T) {
	for _, call := range []api.Call{enter(), leave(), fresh(), advance(), collect(), stalled(), load(), bury(1), retire(9)} {
		for at := range 12 {
			b := after(t, 4, 2, of(0, enter(), enter(), fresh(), fresh(), advance())...)
			b.do(t, of(1, bury(0))...)
			b.do(t, of(0, fresh(), fresh(), advance(), advance(), enter())...)
			c := work([]api.Call{call, enter(), collect(), leave(), collect()}, []api.Call{bury(0), collect(), advance(), collect(), advance(), collect()})
			c.Turns = append(make([]int, at), slices.Repeat([]int{1}, 60)...)
			run, err := crew.Run(c, b)
			if err != api.OK || run.Cut || len(run.Answers[0]) != 5 || len(run.Answers[1]) != 6 {
				t.Fatalf("rule 1: %+v, buried behind %d lines: %+v, %v", call, at, run, err)
			}
			for _, a := range slices.Concat(run.Answers...) {
				if a.Err == api.ErrCrewFell {
					t.Errorf("rule 1: %+v, buried behind %d lines: %+v", call, at, run)
				}
			}
			if b.p.Faults() != 0 {
				t.Errorf("%d faults", b.p.Faults())
			}
		}
	}
}

// Calls done one behind the other, each with all its lines.
func TestOneBehindTheOther(t *testing.T) {
	r := mixer(4)
	for _, workers := range []int{1, 2, 3, 8} {
		for range 25 {
			slots := 1 + r.below(5)
			b, m := newBoth(t, slots, workers), newModel(slots, workers)
			for range 40 {
				k := r.below(workers + 1)
				c := r.call(slots, workers, manners{wild: true, buries: true, named: true})
				if k == 8 {
					continue
				}
				if c.Kind == 3 && k >= workers {
					c = retire(1)
				}
				got, want := b.by(t, k, c)[0], m.alone(k, c)
				if !sameAnswer(got, want) {
					t.Fatalf("%d workers: %+v of worker %d: %+v, want %+v", workers, c, k, got, want)
				}
				wantState(t, "P11.8", b, m.state())
			}
		}
	}
}

func TestAloneAgainstModel(t *testing.T) {
	r := mixer(6)
	for _, workers := range []int{1, 2, 8} {
		for range 60 {
			slots := 1 + r.below(5)
			b, m := newBoth(t, slots, workers), newModel(slots, workers)
			for range 60 {
				c := r.call(slots, workers, manners{wild: true, buries: true, named: true})
				if got, want := b.Do(nil, c), m.alone(0, c); !sameAnswer(got, want) {
					t.Fatalf("rule 10: %+v: %+v, want %+v", c, got, want)
				}
				wantState(t, "P11.8", b, m.state())
			}
		}
	}
}

// Calls by their names, by the workers of a run, with Retires of any numbers and Gives among them.
func TestByNameAgainstModel(t *testing.T) {
	went := 0
	mixedPlays(8000, manners{wild: true, buries: true, named: true}, func(x mixed) {
		run, _ := wantNamed(t, "P11.2 to P11.12", x.slots, x.workers, x.c)
		for k, answers := range run.Answers {
			for i, a := range answers {
				if x.c.Work[k][i].Kind == 5 {
					went += a.N
				}
			}
		}
	})
	if went < 1000 {
		t.Errorf("the cases are too plain: %d went", went)
	}
}

// Calls that a greater one is made of do their own lines each, those that are refused too.
func TestLinesAddUp(t *testing.T) {
	b := newBoth(t, 2, 2)
	for _, x := range []struct {
		calls []api.Call
		lines int
	}{
		{[]api.Call{leave(), enter(), enter(), leave(), leave(), leave()}, 1 + 2 + 1 + 1 + 1 + 1},
		{[]api.Call{retire(5), load(), stalled(), advance(), advance(), collect(), collect()}, 1 + 1 + 3 + 4 + 4 + 2 + 1},
		{[]api.Call{enter(), advance(), advance(), stalled(), leave()}, 2 + 4 + 2 + 3 + 1},
		{[]api.Call{bury(0), bury(1), bury(2), bury(-1)}, 4},
		{[]api.Call{fresh(), advance(), advance(), collect()}, 4 + 4 + 4 + 5},
	} {
		run, err := crew.Run(work([]api.Call{{}}), does(func(w *crew.Worker, _ api.Call) api.Answer {
			for _, c := range x.calls {
				b.Do(w, c)
			}
			return api.Answer{}
		}))
		if err != api.OK || run.Steps != x.lines {
			t.Errorf("%+v in one call: %d lines, want %d", x.calls, run.Steps, x.lines)
		}
	}
}

// writeOver writes into a list and all the spare room behind it.
func writeOver(list []int) {
	list = list[:cap(list)]
	for i := range list {
		list[i] = -99
	}
}

// What a list that was answered is used for changes neither the epochs nor another list.
func TestListsAreTheirOwnersOwn(t *testing.T) {
	for _, waiting := range []int{1, 2, 3, 5, 8, 100} {
		b := newBoth(t, 1, 3)
		b.do(t, of(1, enter())...)
		b.do(t, of(2, enter(), advance())...)
		for i := range waiting {
			b.e.Retire(nil, i)
		}
		b.do(t, of(2, retire(7))...)
		want := b.state()
		lists := [][]int{b.e.At(), b.e.At(), b.e.Waiting(0), b.e.Waiting(0), b.e.Waiting(2), b.e.Stalled(nil), b.e.Stalled(nil)}
		for i, list := range lists {
			kept := make([][]int, len(lists))
			for k := range lists {
				kept[k] = slices.Clone(lists[k])
			}
			writeOver(list)
			_ = append(list, -98)
			for k := range lists {
				if k != i && !slices.Equal(lists[k], kept[k]) {
					t.Fatalf("rule 3: lists %d and %d share memory", i, k)
				}
			}
			wantState(t, "rule 3: behind a list that was written over", b, want)
		}
	}
}

// What was told stays as it is, whatever is done behind it.
func TestToldListsStay(t *testing.T) {
	b := after(t, 2, 2, of(1, enter(), advance(), retire(4), retire(5))...)
	at, waiting, who := b.e.At(), b.e.Waiting(1), b.e.Stalled(nil)
	b.do(t, of(1, retire(6), leave(), enter(), advance(), leave(), advance(), collect(), retire(7))...)
	b.do(t, of(0, bury(1), enter())...)
	if !slices.Equal(at, []int{0, 1}) || !slices.Equal(waiting, []int{4, 5}) || !slices.Equal(who, []int{1}) {
		t.Errorf("rule 3: %v, %v, %v", at, waiting, who)
	}
}

// Adopted lists aren't shared: what the buried number retires behind it isn't its heir's.
func TestAdoptedListsDoNotTouch(t *testing.T) {
	b := after(t, 1, 2, of(1, retire(1), retire(2), retire(3))...)
	b.do(t, of(0, bury(1), retire(4))...)
	for h := 5; h < 9; h++ {
		b.do(t, of(1, retire(-h))...)
		b.do(t, of(0, retire(h))...)
	}
	if a, c := b.e.Waiting(0), b.e.Waiting(1); !slices.Equal(a, []int{1, 2, 3, 4, 5, 6, 7, 8}) || !slices.Equal(c, []int{-5, -6, -7, -8}) {
		t.Errorf("P11.12: %v, %v", a, c)
	}
}

// Two epochs over one pool have no more in common than that pool.
func TestEpochsDoNotTouch(t *testing.T) {
	b := newBoth(t, 2, 2)
	o := both{epoch.New(b.p, 2), b.p}
	b.do(t, of(1, enter(), fresh(), advance())...)
	s := o.state()
	if s.now != 1 || !slices.Equal(s.at, []int{0, 0}) || len(s.lists[1]) != 0 {
		t.Errorf("rule 6: %+v", s)
	}
	o.do(t, of(0, advance(), advance(), retire(word(1, 1)), advance(), advance(), collect())...)
	if o.e.Now() != 5 || b.e.Now() != 2 || len(b.e.Waiting(1)) != 1 || len(b.p.Free()) != 2 {
		t.Errorf("rule 6: %+v, %+v", o.state(), b.state())
	}
}

// Long lists, also with elder ones behind younger ones, are gone through at once.
func TestLongLists(t *testing.T) {
	const long = 100000
	b := newBoth(t, 1, 2)
	_, err := crew.Loose(work(nil, []api.Call{{}}), does(func(w *crew.Worker, _ api.Call) api.Answer {
		for i := range long {
			b.e.Retire(w, i)
		}
		return api.Answer{}
	}))
	if err != api.OK || !b.e.Advance(nil) {
		t.Fatal(err)
	}
	for i := range long {
		b.e.Retire(nil, -i)
	}
	b.e.Bury(nil, 1)
	b.e.Advance(nil)
	if n, err := b.e.Collect(nil); n != long || err != api.OK || len(b.e.Waiting(0)) != long || b.e.Waiting(0)[long-1] != 1-long {
		t.Errorf("P11.6: %d went, %v", n, err)
	}
	b.e.Advance(nil)
	if n, err := b.e.Collect(nil); n != long || err != api.OK || len(b.e.Waiting(0)) != 0 {
		t.Errorf("P11.6: %d went, %v", n, err)
	}
}

// What went is let go of: what is kept is no more than what waits.
func TestNothingIsKept(t *testing.T) {
	const rounds, most = 20000, 100000
	b := newBoth(t, 1, 1)
	round := func(times int) uint64 {
		for range times {
			b.e.Retire(nil, 5)
			b.e.Advance(nil)
			b.e.Collect(nil)
		}
		runtime.GC()
		var m runtime.MemStats
		runtime.ReadMemStats(&m)
		return m.HeapAlloc
	}
	before := round(100)
	if behind := round(rounds); behind > before+most {
		t.Errorf("rule 8 of the language: %d bytes more behind %d rounds", behind-before, rounds)
	}
	if len(b.e.Waiting(0)) != 1 {
		t.Errorf("P11.6: %v", b.e.Waiting(0))
	}
}
