package chain_test

import (
	"reflect"
	"slices"
	"testing"

	"skein/api"
	"skein/chain"
	"skein/clock"
	"skein/crew"
	"skein/pool"
)

// real: a chain, its pool and its clock; their calls are done by their names. The hands are those of Play's workers.
type real struct {
	x     *chain.Chain
	p     *pool.Pool
	c     *clock.Clock
	hands *[8]int
}

func newReal(t *testing.T, slots, leases int) real {
	t.Helper()
	p, err := pool.New(slots)
	if err != api.OK {
		t.Fatalf("pool.New(%d): %v", slots, err)
	}
	c, err := clock.New(leases)
	if err != api.OK {
		t.Fatalf("clock.New(%d): %v", leases, err)
	}
	return real{chain.New(p, c), p, c, new([8]int)}
}

func (r real) state() state {
	s := state{versions: r.x.Versions(), slots: r.p.Slots(), free: r.p.Free(), faults: r.p.Faults(), now: r.c.Now(nil), leases: r.c.Leases()}
	for i, x := range s.slots {
		s.sets = append(s.sets, r.x.Set(word(i+1, x.Gen)))
	}
	return s
}

// chain does a call of Play's; of a handle its answer tells all, not the index alone.
func (r real) chain(w *crew.Worker, c api.Call) api.Answer {
	hand := &r.hands[w.Number()]
	switch c.Kind {
	case 1:
		h, err := r.x.First(w, api.Node{A: c.A})
		return told(h, 0, err)
	case 2:
		h, stamp, err := r.x.Top(w)
		*hand = h
		return told(h, stamp, err)
	case 3:
		h, ok, err := r.x.Push(w, *hand, api.Node{A: c.A}, keysOf(c.Pairs))
		return api.Answer{Ok: ok, N: h, Err: err}
	case 4:
		h, err := r.x.At(w, c.A)
		*hand = h
		return told(h, 0, err)
	case 5:
		h, set, err := r.x.Cut(w, *hand)
		return api.Answer{Ok: err == api.OK, N: h, Ints: set, Err: err}
	case 6:
		s, err := r.c.Take(w)
		if err == api.OK {
			err = r.c.Release(w, s.Lease)
		}
		if err != api.OK {
			return failed(err)
		}
		return told(0, s.Stamp, err)
	}
	w.Step()
	return failed(api.ErrChainCall)
}

func (r real) Do(w *crew.Worker, c api.Call) api.Answer {
	switch c.Kind {
	case kindPushOn:
		h, ok, err := r.x.Push(w, c.A, api.Node{A: c.B}, keysOf(c.Pairs))
		return api.Answer{Ok: ok, N: h, Err: err}
	case kindCutOf:
		h, set, err := r.x.Cut(w, c.A)
		return api.Answer{Ok: err == api.OK, N: h, Ints: set, Err: err}
	case kindSlot:
		h, err := r.p.Take(w, api.Node{A: c.A}, c.B)
		return told(h, 0, err)
	case kindGive:
		return told(0, 0, r.p.Give(w, c.A))
	case kindMark:
		ok, err := r.p.CasMark(w, c.A, c.B, c.C)
		return api.Answer{Ok: ok, Err: err}
	case kindLink:
		h, err := r.p.SwapLink(w, c.A, c.B)
		return told(h, 0, err)
	case kindLease:
		s, err := r.c.Take(w)
		return told(s.Lease, s.Stamp, err)
	case kindFree:
		return told(0, 0, r.c.Release(w, c.A))
	}
	return r.chain(w, c)
}

// by does a named call by a worker of a run; its answer tells how many lines it did by itself.
func (r real) by(t *testing.T, c api.Call) api.Answer {
	t.Helper()
	run, err := crew.Run(work([]api.Call{c}), does(func(w *crew.Worker, c api.Call) api.Answer {
		w.Step() // so that a call without a line doesn't look like one that has one
		return r.Do(w, c)
	}))
	if err != api.OK || run.Cut || len(run.Answers[0]) != 1 {
		t.Fatalf("%+v: %+v, %v", c, run, err)
	}
	a := run.Answers[0][0]
	a.Own--
	return a
}

// after makes a chain of 9 slots and 3 leases and does named calls, one behind the other, all of which go well.
func after(t *testing.T, calls ...api.Call) real {
	t.Helper()
	return newReal(t, 9, 3).do(t, calls...)
}

func (r real) do(t *testing.T, calls ...api.Call) real {
	t.Helper()
	for _, c := range calls {
		if a := r.by(t, c); !a.Ok {
			t.Fatalf("%+v: %+v", c, a)
		}
	}
	return r
}

// halted does so many lines of a named call, and no more.
func (r real) halted(t *testing.T, c api.Call, lines int) real {
	t.Helper()
	k := work([]api.Call{c})
	k.Halt = []int{lines}
	run, err := crew.Run(k, r)
	if err != api.OK || run.Steps != lines || len(run.Open) != 1 {
		t.Fatalf("%+v, halted behind %d lines: %+v, %v", c, lines, run, err)
	}
	return r
}

// broken does a call of worker 0, broken off behind so many lines by the others, which are worker 1's.
func (r real) broken(t *testing.T, call api.Call, at int, others ...api.Call) (api.Answer, []api.Answer) {
	t.Helper()
	c := work([]api.Call{call}, others)
	c.Turns = append(make([]int, at), slices.Repeat([]int{1}, 400)...)
	run, err := crew.Run(c, r)
	if err != api.OK || run.Cut || len(run.Answers[0]) != 1 || len(run.Answers[1]) != len(others) {
		t.Fatalf("%+v, broken off behind %d lines: %+v, %v", call, at, run, err)
	}
	return run.Answers[0][0], run.Answers[1]
}

// change: what a line changes.
type change func(s *state)

// still: nothing is changed, by so many lines.
func still(lines int) []change { return slices.Repeat([]change{func(*state) {}}, lines) }

// takes: a slot that was free is in use; its set is told from then on.
func takes(i, a, link int, set ...int) change {
	return func(s *state) {
		s.slots[i-1] = api.Slot{Gen: s.slots[i-1].Gen + 1, Node: api.Node{A: a}, Link: link}
		s.free = slices.DeleteFunc(s.free, func(j int) bool { return i == j })
		s.sets[i-1] = set
	}
}

// leaves: a slot isn't in use any more.
func leaves(i int) change {
	return func(s *state) {
		s.slots[i-1] = given(s.slots[i-1].Gen + 1)
		s.sets[i-1] = nil
	}
}

// lies: a slot is the first one of those that are free.
func lies(i int) change {
	return func(s *state) { s.free = append([]int{i}, s.free...) }
}

// stamped: a slot has a stamp.
func stamped(i, stamp int) change { return func(s *state) { s.slots[i-1].Mark = stamp } }

// leads: a slot is the newest version.
func leads(i int) change {
	return func(s *state) { s.versions = append([]int{word(i, s.slots[i-1].Gen)}, s.versions...) }
}

// cutOffAt: a version, so many behind the newest one, is the last one, and has no set.
func cutOffAt(n int) change {
	return func(s *state) {
		i := s.versions[n]>>40 - 1
		s.slots[i].Link, s.sets[i] = 0, nil
		s.versions = s.versions[:n+1]
	}
}

func goesOn(s *state) { s.now++ }

func faulty(s *state) { s.faults++ }

// lines: what the lines of a call change, one behind the other.
func lines(parts ...any) []change {
	var list []change
	for _, p := range parts {
		switch x := p.(type) {
		case []change:
			list = append(list, x...)
		case change:
			list = append(list, x)
		case func(*state):
			list = append(list, x)
		}
	}
	return list
}

// backLines: those of Give.
func backLines(i int) []change { return lines(leaves(i), still(2), lies(i)) }

// wantLines does a call and looks behind each of its lines.
func (r real) wantLines(t *testing.T, promise string, call api.Call, want api.Answer, changes []change) {
	t.Helper()
	is := r.state()
	var seen []state
	looks := make([]api.Call, len(changes))
	c := work([]api.Call{call}, looks)
	for range changes {
		c.Turns = append(c.Turns, 0, 1)
	}
	run, err := crew.Run(c, does(func(w *crew.Worker, c api.Call) api.Answer {
		if w.Number() == 0 {
			return r.Do(w, c)
		}
		seen = append(seen, r.state())
		return api.Answer{}
	}))
	if err != api.OK || run.Steps != 2*len(changes) || len(run.Answers[0]) != 1 {
		t.Fatalf("%s: %+v: %+v, %v, want %d lines", promise, call, run, err, len(changes))
	}
	if a := run.Answers[0][0]; !sameAnswer(a, want) || a.Own != len(changes) {
		t.Errorf("%s: %+v: %+v, want %+v in %d lines", promise, call, a, want, len(changes))
	}
	for i, f := range changes {
		is = is.clone()
		f(&is)
		if !seen[i].same(is) {
			t.Fatalf("%s: %+v: behind line %d: %+v, want %+v", promise, call, i+1, seen[i], is)
		}
	}
}

func (r real) wantState(t *testing.T, promise string, want state) {
	t.Helper()
	if got := r.state(); !got.same(want) {
		t.Fatalf("%s: %+v, want %+v", promise, got, want)
	}
}

// wants does a call by a worker and asks for its answer and its lines.
func (r real) wants(t *testing.T, promise string, c api.Call, want api.Answer, lines int) {
	t.Helper()
	if a := r.by(t, c); !sameAnswer(a, want) || a.Own != lines {
		t.Fatalf("%s: %+v: %+v, want %+v in %d lines", promise, c, a, want, lines)
	}
}

func sameAnswer(a, b api.Answer) bool {
	a.Begin, a.End, a.Own = b.Begin, b.End, b.Own
	return reflect.DeepEqual(plainRun(api.Run{Answers: [][]api.Answer{{a}}}), plainRun(api.Run{Answers: [][]api.Answer{{b}}}))
}

func good() api.Answer                   { return api.Answer{Ok: true} }
func bad() api.Answer                    { return api.Answer{} }
func version(h int) api.Answer           { return api.Answer{Ok: true, N: h} }
func newest(h, stamp int) api.Answer     { return api.Answer{Ok: true, N: h, M: stamp} }
func moved(stamp int) api.Answer         { return api.Answer{Ok: true, M: stamp} }
func cutting(h int, s ...int) api.Answer { return api.Answer{Ok: true, N: h, Ints: s} }
func failed(err api.Errno) api.Answer    { return api.Answer{Err: err} }
func many(n int, c api.Call) []api.Call  { return slices.Repeat([]api.Call{c}, n) }

func wantPlay(t *testing.T, promise string, slots, leases int, c api.Case, want api.Run, rows [][]int) {
	t.Helper()
	run, got, err := chain.Play(slots, leases, c)
	if err != api.OK || !sameRun(run, want) || !sameLists(got, rows) {
		t.Fatalf("%s: Play(%d, %d, %+v)\ngot  %+v %v %v\nwant %+v %v", promise, slots, leases, c, run, got, err, want, rows)
	}
}

// wantModel holds a Play against the model.
func wantModel(t *testing.T, promise string, x mixed) (api.Run, state) {
	t.Helper()
	m := newModel(x.slots, x.leases)
	run := m.run(x.c, true)
	wantPlay(t, promise, x.slots, x.leases, x.c, run, m.told().rows())
	return run, m.told()
}

// wantNamed holds a run of named calls over a new chain against the model.
func wantNamed(t *testing.T, promise string, x mixed) (api.Run, real) {
	t.Helper()
	r, m := newReal(t, x.slots, x.leases), newModel(x.slots, x.leases)
	want := m.run(x.c, false)
	run, err := crew.Run(x.c, r)
	if err != api.OK || !sameRun(run, want) || !r.state().same(m.told()) {
		t.Fatalf("%s: %+v\ngot  %+v %+v %v\nwant %+v %+v", promise, x, run, r.state(), err, want, m.told())
	}
	return run, r
}

var (
	noSlots    = []int{lowest, lowest + 1, -1 << 32, -4096, -1, 0, mostSlots + 1, mostSlots + 2, 8192, 1 << 20, 1 << 32, 1<<32 + 1, highest - 1, highest}
	noLeases   = []int{lowest, lowest + 1, -1 << 32, -64, -1, 0, 65, 66, 128, 1 << 32, 1<<32 + 1, highest - 1, highest}
	farNumbers = []int{lowest, lowest + 1, -1 << 32, -65, -2, -1, 0, 1, 2, 63, 64, 65, 1 << 32, highest - 1, highest}
	farStamps  = []int{lowest, lowest + 1, -1 << 40, -1 << 32, -2, -1, 0, 1 << 32, 1<<32 + 1, 1 << 40, highest - 1, highest}
	fewHalts   = []int{lowest, -1, 0, 0, 0, 1, 2, 3, 4, 5, 8, 12, 20, 33, highest}
	fewUntils  = []int{0, 0, 0, 0, 1, 2, 3, 7, 15, 40, 19999, 20000}
	noKinds    = []int{lowest, lowest + 1, -6, -1, 0, 7, 8, 101, 105, 1<<32 + 1, highest - 1, highest}
)

// noHandles: what is no handle of a slot of a pool of n.
func noHandles(n int) []int {
	return []int{
		0, 1, 5, word(0, 1), word(0, 3), word(n+1, 1), word(n+1, 3), word(8192, 1), word(1, 0), word(1, 2), word(n, 0), word(n, 2), word(n+1, 0),
		1<<60 + word(1, 1), 1<<62 + word(1, 1), 1 << 60, -1, -word(1, 1), lowest + word(1, 1), lowest, lowest + 1, highest - 1, highest,
	}
}

// mixed: a Play's arguments.
type mixed struct {
	slots, leases int
	c             api.Case
}

// manners: which calls come.
type manners struct {
	wild  bool // calls that can't be, stamps of which there are none
	named bool // calls that Play hasn't
}

// call: sets have numbers that no other one of these calls has.
func (m *mixer) call(slots int, how manners) api.Call {
	kind := m.one([]int{1, 1, 2, 2, 2, 2, 2, 3, 3, 3, 3, 3, 3, 4, 4, 4, 5, 5, 6, 6, 6})
	c := api.Call{Kind: kind, A: 1 + m.below(5), B: m.below(3), C: m.below(3)}
	if kind == 3 {
		c.A = m.below(1000)
		for range m.below(4) {
			c.Pairs = append(c.Pairs, api.Pair{Key: int(*m >> 1), Value: m.below(9)})
		}
	}
	if how.named && m.below(4) == 0 {
		c = m.namedCall(slots)
	}
	if how.wild && m.below(10) == 0 {
		if m.below(2) == 0 {
			c.Kind = m.one(noKinds)
		} else {
			c = at(m.one(farStamps))
		}
	}
	return c
}

// namedCall: with handles that may be some slot's. (Links are changed to 0 alone: so no rings come.)
func (m *mixer) namedCall(slots int) api.Call {
	h := word(1+m.below(slots), 1+2*m.below(3))
	if m.below(4) == 0 {
		h = m.one(noHandles(slots))
	}
	list := []api.Call{
		pushOn(h, m.below(100), m.below(100), m.below(100)), pushOn(h, m.below(100)), pushOn(0, 7), cutOf(h), cutOf(h), slot(m.below(100), 0),
		give(h), mark(h, 0, 1+m.below(4)), mark(h, 1, 2), link(h, 0), lease(), free(m.below(3)),
	}
	return list[m.below(len(list))]
}

func (m *mixer) mixed(how manners) mixed {
	x := mixed{slots: m.one([]int{1, 2, 3, 4, 6, 9, 20}), leases: m.one([]int{1, 1, 2, 3})}
	for range 1 + m.below(4) {
		var calls []api.Call
		for range m.below(12) {
			calls = append(calls, m.call(x.slots, how))
		}
		x.c.Work = append(x.c.Work, calls)
	}
	for range m.below(90) {
		x.c.Turns = append(x.c.Turns, m.one(farNumbers)+m.below(8))
	}
	// A worker that goes on for some time makes that others meet what it left.
	for range m.below(8) {
		k, times := m.below(8), m.below(12)
		x.c.Turns = append(x.c.Turns, slices.Repeat([]int{k}, times)...)
	}
	if m.below(2) == 0 {
		for range m.below(7) {
			x.c.Halt = append(x.c.Halt, m.one(fewHalts))
		}
		x.c.Until = m.one(fewUntils)
	}
	return x
}

// mixedPlays calls f with so many Plays' arguments.
func mixedPlays(count int, how manners, f func(x mixed)) {
	m := mixer(count)
	for range count {
		f(m.mixed(how))
	}
}
