package trim_test

import (
	"reflect"
	"slices"
	"testing"

	"skein/api"
	"skein/chain"
	"skein/clock"
	"skein/crew"
	"skein/epoch"
	"skein/pool"
	"skein/trim"
)

// real: what a cell is made of; its calls are done by the names of the layers' functions. The registers are those of Play's workers.
type real struct {
	p         *pool.Pool
	k         *clock.Clock
	e         *epoch.Epoch
	x         *chain.Chain
	registers *[8][4]api.Snap
}

func newReal(t *testing.T, z sizes) real {
	t.Helper()
	p, err := pool.New(z.slots)
	if err != api.OK {
		t.Fatalf("pool.New(%d): %v", z.slots, err)
	}
	k, err := clock.New(z.leases)
	if err != api.OK {
		t.Fatalf("clock.New(%d): %v", z.leases, err)
	}
	return real{p, k, epoch.New(p, z.workers), chain.New(p, k), new([8][4]api.Snap)}
}

// after makes one of 30 slots, 3 workers and 2 leases, behind some calls.
func after(t *testing.T, calls ...api.Call) real {
	t.Helper()
	return newReal(t, plain).do(t, calls...)
}

var plain = sizes{30, 3, 2}

func (r real) state() state {
	s := state{
		slots: r.p.Slots(), free: r.p.Free(), faults: r.p.Faults(), now: r.k.Now(nil), leases: r.k.Leases(), versions: r.x.Versions(),
		epoch: r.e.Now(), at: r.e.At(),
	}
	for i, x := range s.slots {
		s.sets = append(s.sets, r.x.Set(word(i+1, x.Gen)))
	}
	for k := range s.at {
		s.waiting = append(s.waiting, r.e.Waiting(k))
	}
	return s
}

func (r real) trim(w *crew.Worker) (int, api.Errno) { return trim.Trim(w, r.x, r.e, r.k) }

func (r real) begin(w *crew.Worker, value int) api.Errno {
	v, err := r.p.Take(w, api.Node{A: value}, 0)
	if err != api.OK {
		return err
	}
	if _, err = r.x.First(w, api.Node{A: v}); err != api.OK {
		r.p.Give(w, v)
	}
	return err
}

func (r real) write(w *crew.Worker, value int) api.Errno {
	if err := r.e.Enter(w); err != api.OK {
		return err
	}
	v, err := r.p.Take(w, api.Node{A: value}, 0)
	if err != api.OK {
		r.e.Leave(w)
		return err
	}
	if err = r.publish(w, v); err != api.OK {
		r.p.Give(w, v)
	}
	r.e.Leave(w)
	return err
}

func (r real) publish(w *crew.Worker, v int) api.Errno {
	for {
		h, _, err := r.x.Top(w)
		if err != api.OK {
			return err
		}
		old, err := r.p.Read(w, h)
		if err != api.OK {
			return err
		}
		if _, ok, err := r.x.Push(w, h, api.Node{A: v}, []int{old.A}); ok || err != api.OK {
			return err
		}
	}
}

func (r real) valueOf(w *crew.Worker, h int) (int, api.Errno) {
	version, err := r.p.Read(w, h)
	if err != api.OK {
		return 0, err
	}
	x, err := r.p.Read(w, version.A)
	return x.A, err
}

func (r real) read(w *crew.Worker) (int, int, api.Errno) {
	if err := r.e.Enter(w); err != api.OK {
		return 0, 0, err
	}
	h, stamp, err := r.x.Top(w)
	value := 0
	if err == api.OK {
		value, err = r.valueOf(w, h)
	}
	r.e.Leave(w)
	if err != api.OK {
		return 0, 0, err
	}
	return value, stamp, err
}

func (r real) peek(w *crew.Worker, s api.Snap) (int, api.Errno) {
	h, err := r.x.At(w, s.Stamp)
	if err != api.OK {
		return 0, err
	}
	return r.valueOf(w, h)
}

// play does a call of Play's.
func (r real) play(w *crew.Worker, c api.Call) api.Answer {
	switch c.Kind {
	case 1:
		return went(0, r.begin(w, c.A))
	case 2:
		return went(0, r.write(w, c.A))
	case 3:
		value, stamp, err := r.read(w)
		return api.Answer{Ok: err == api.OK, N: value, M: stamp, Err: err}
	case 4, 5, 6:
		return r.byRegister(w, c)
	case 7:
		return went(r.trim(w))
	case 8:
		return api.Answer{Ok: r.e.Advance(w)}
	case 9:
		return went(r.e.Collect(w))
	}
	return refuse(w, noCall)
}

func refuse(w *crew.Worker, err api.Errno) api.Answer {
	w.Step()
	return failed(err)
}

func (r real) byRegister(w *crew.Worker, c api.Call) api.Answer {
	if c.A < 0 || c.A > 3 {
		return refuse(w, map[int]api.Errno{4: api.ErrClockCall, 5: api.ErrClockCall, 6: noCall}[c.Kind])
	}
	is := &r.registers[w.Number()][c.A]
	switch {
	case c.Kind == 4 && is.Stamp != 0:
		return refuse(w, api.ErrClockCall)
	case c.Kind == 4:
		s, err := r.k.Take(w)
		*is = s
		return api.Answer{Ok: err == api.OK, N: s.Lease, M: s.Stamp, Err: err}
	case is.Stamp == 0:
		return refuse(w, noLease)
	case c.Kind == 5:
		err := r.k.Release(w, is.Lease)
		*is = api.Snap{}
		return went(0, err)
	}
	return went(r.peek(w, *is))
}

func (r real) Do(w *crew.Worker, c api.Call) api.Answer {
	switch c.Kind {
	case kindEnter:
		return went(0, r.e.Enter(w))
	case kindLeave:
		return went(0, r.e.Leave(w))
	case kindSlot:
		return went(r.p.Take(w, api.Node{A: c.A}, 0))
	case kindGive:
		return went(0, r.p.Give(w, c.A))
	case kindFirst:
		return went(r.x.First(w, api.Node{A: c.A}))
	case kindPush:
		h, ok, err := r.x.Push(w, c.A, api.Node{A: c.B}, keysOf(c.Pairs))
		return api.Answer{Ok: ok, N: h, Err: err}
	case kindCut:
		h, set, err := r.x.Cut(w, c.A)
		return api.Answer{Ok: err == api.OK, N: h, Ints: set, Err: err}
	case kindRetire:
		return went(0, r.e.Retire(w, c.A))
	case kindTake:
		s, err := r.k.Take(w)
		return api.Answer{Ok: err == api.OK, N: s.Lease, M: s.Stamp, Err: err}
	case kindRelease:
		return went(0, r.k.Release(w, c.A))
	case kindLink:
		return went(r.p.SwapLink(w, c.A, c.B))
	case kindMark:
		ok, err := r.p.CasMark(w, c.A, c.B, c.C)
		return api.Answer{Ok: ok, Err: err}
	case kindBury:
		return went(0, r.e.Bury(w, c.A))
	}
	return r.play(w, c)
}

// by does a call by worker 0 of a run; its answer tells how many lines it did by itself.
func (r real) by(t *testing.T, c api.Call) api.Answer {
	t.Helper()
	return lonely(t, work([]api.Call{c}), r)
}

// lonely does the last call of a case, whose other workers have none; Own tells how many lines it did by itself.
func lonely(t *testing.T, c api.Case, d crew.Does) api.Answer {
	t.Helper()
	run, err := crew.Run(c, does(func(w *crew.Worker, c api.Call) api.Answer {
		w.Step() // so that a call without a line doesn't look like one that has one
		return d.Do(w, c)
	}))
	last := len(c.Work) - 1
	if err != api.OK || run.Cut || len(run.Answers[last]) != 1 {
		t.Fatalf("%+v: %+v, %v", c, run, err)
	}
	a := run.Answers[last][0]
	a.Own--
	return a
}

// do does calls, one behind the other, all without an error.
func (r real) do(t *testing.T, calls ...api.Call) real {
	t.Helper()
	for _, c := range calls {
		if a := r.by(t, c); a.Err != api.OK {
			t.Fatalf("%+v: %+v", c, a)
		}
	}
	return r
}

// halted does so many lines of a call of worker 0, and no more.
func (r real) halted(t *testing.T, c api.Call, lines int) real {
	t.Helper()
	k := work([]api.Call{c})
	k.Halt = []int{lines}
	run, err := crew.Run(k, r)
	if err != api.OK || run.Steps != lines || len(run.Open) != 1 {
		t.Fatalf("%+v, halted behind %d lines: %+v, %v", c, lines, run, err)
	}
	return r
}

// broken does a call of worker 0, broken off behind so many lines by the others, which are worker 1's.
func (r real) broken(t *testing.T, call api.Call, at int, others ...api.Call) (api.Answer, []api.Answer) {
	t.Helper()
	c := work([]api.Call{call}, others)
	c.Turns = append(make([]int, at), slices.Repeat([]int{1}, 300)...)
	run, err := crew.Run(c, r)
	if err != api.OK || run.Cut || len(run.Answers[0]) != 1 || len(run.Answers[1]) != len(others) {
		t.Fatalf("%+v, broken off behind %d lines: %+v, %v", call, at, run, err)
	}
	return run.Answers[0][0], run.Answers[1]
}

// change: what a line changes.
type change func(s *state)

// still: nothing is changed, by so many lines.
func still(lines int) []change { return slices.Repeat([]change{func(*state) {}}, lines) }

// takes: pool.Take's lines, of a slot that is the first free one.
func takes(i, a, link int) []change {
	return lines(still(2), func(s *state) {
		s.slots[i-1] = api.Slot{Gen: s.slots[i-1].Gen + 1, Node: api.Node{A: a}, Link: link}
		s.free = slices.DeleteFunc(s.free, func(j int) bool { return i == j })
	})
}

// back: pool.Give's lines.
func back(slots ...int) []change {
	var list []change
	for _, i := range slots {
		leaves := func(s *state) { s.slots[i-1], s.sets[i-1] = given(s.slots[i-1].Gen+1), nil }
		lies := func(s *state) { s.free = append([]int{i}, s.free...) }
		list = append(list, lines(leaves, still(2), lies)...)
	}
	return list
}

// collects: the same of Collect's: with the last line a handle goes out of worker 0's list, whose first one it is.
func collects(slots ...int) []change {
	var list []change
	for _, i := range slots {
		one := back(i)
		lies := one[3]
		one[3] = func(s *state) {
			lies(s)
			s.waiting[0] = s.waiting[0][1:]
		}
		list = append(list, one...)
	}
	return list
}

// leads: chain.First's lines, into slot i.
func leads(i, a int) []change {
	return lines(takes(i, a, 0), stamped(i, 1), func(s *state) { s.versions = []int{word(i, s.slots[i-1].Gen)} })
}

// lies: chain.Push's lines up to the cas of the head, into slot i, upon the newest version.
func lies(i, a int, set ...int) []change {
	var old int
	return lines(func(s *state) { old = s.versions[0] }, still(1), func(s *state) {
		takes(i, a, old)[2](s)
		s.sets[i-1] = set
	}, func(s *state) {
		s.versions = append([]int{word(i, s.slots[i-1].Gen)}, s.versions...)
	})
}

// follows: chain.Push's lines, into slot i, upon the newest version.
func follows(i, a, stamp int, set ...int) []change {
	return lines(lies(i, a, set...), still(2), stamped(i, stamp))
}

func stamped(i, stamp int) change { return func(s *state) { s.slots[i-1].Mark = stamp } }

func faulty(s *state) { s.faults++ }

// comes, goes: Enter's lines and Leave's, of worker 0.
func comes() []change {
	return lines(still(1), func(s *state) { s.at[0] = s.epoch })
}

func goes(s *state) { s.at[0] = 0 }

// cuts: Cut's line, of the version in slot i; those that are older than it, as far as they are in the chain, are in it no more.
func cuts(i int) change {
	return func(s *state) {
		s.slots[i-1].Link, s.sets[i-1] = 0, nil
		if at := slices.Index(s.versions, word(i, s.slots[i-1].Gen)); at >= 0 {
			s.versions = s.versions[:at+1]
		}
	}
}

// waitFor: Retire's lines, of worker 0.
func waitFor(handles ...int) []change {
	var list []change
	for _, h := range handles {
		list = append(list, func(s *state) { s.waiting[0] = append(slices.Clone(s.waiting[0]), h) })
	}
	return list
}

// holds: a lease has another word.
func holds(lease, is int) change { return func(s *state) { s.leases[lease] = is } }

// snaps: the lines of a Take of the first lease.
func snaps(t int) []change {
	return lines(holds(0, 1), still(1), holds(0, t+1), still(1), func(s *state) { s.now++ })
}

// lines: what the lines of a call change, one behind the other.
func lines(list ...any) []change {
	var all []change
	for _, p := range list {
		switch x := p.(type) {
		case []change:
			all = append(all, x...)
		case change:
			all = append(all, x)
		case func(*state):
			all = append(all, x)
		}
	}
	return all
}

// trims: the lines of a Trim of worker 0, who isn't within; of two leases.
func trims(list ...any) []change { return lines(comes(), still(3), lines(list...), goes) }

// wantLines does a call and looks behind each of its lines.
func (r real) wantLines(t *testing.T, promise string, call api.Call, want api.Answer, changes []change) {
	t.Helper()
	is := r.state()
	var seen []state
	c := work([]api.Call{call}, []api.Call{{}})
	for range changes {
		c.Turns = append(c.Turns, 0, 1)
	}
	run, err := crew.Run(c, does(func(w *crew.Worker, c api.Call) api.Answer {
		if w.Number() == 0 {
			return r.Do(w, c)
		}
		for range changes {
			w.Step()
			seen = append(seen, r.state())
		}
		return api.Answer{}
	}))
	if err != api.OK || run.Steps != 2*len(changes) || len(run.Answers[0]) != 1 {
		t.Fatalf("%s: %+v: %+v, %v, want %d lines", promise, call, run, err, len(changes))
	}
	if a := run.Answers[0][0]; !sameAnswer(a, want) || a.Own != len(changes) {
		t.Errorf("%s: %+v: %+v, want %+v in %d lines", promise, call, a, want, len(changes))
	}
	for i, f := range changes {
		is = is.clone()
		f(&is)
		if !seen[i].same(is) {
			t.Fatalf("%s: %+v: behind line %d: %+v, want %+v", promise, call, i+1, seen[i], is)
		}
	}
}

// wants does a call by a worker and asks for its answer and its lines.
func (r real) wants(t *testing.T, promise string, c api.Call, want api.Answer, lines int) {
	t.Helper()
	if a := r.by(t, c); !sameAnswer(a, want) || a.Own != lines {
		t.Fatalf("%s: %+v: %+v, want %+v in %d lines", promise, c, a, want, lines)
	}
}

func sameAnswer(a, b api.Answer) bool {
	a.Begin, a.End, a.Own = b.Begin, b.End, b.Own
	return reflect.DeepEqual(plainRun(api.Run{Answers: [][]api.Answer{{a}}}), plainRun(api.Run{Answers: [][]api.Answer{{b}}}))
}

// What calls answer: good: Ok; number: Ok, and a number; newest: Ok, a number, and a stamp.
func good() api.Answer                { return api.Answer{Ok: true} }
func number(n int) api.Answer         { return api.Answer{Ok: true, N: n} }
func newest(n, stamp int) api.Answer  { return api.Answer{Ok: true, N: n, M: stamp} }
func failed(err api.Errno) api.Answer { return api.Answer{Err: err} }
func own(lines int, a api.Answer) api.Answer {
	a.Own = lines
	return a
}

// The errors that calls answer most.
const (
	noCall   = api.ErrTrimCall
	noRoom   = api.ErrPoolFull
	noHandle = api.ErrPoolHandle
	gone     = api.ErrPoolGone
	noWorker = api.ErrEpochWorker
	full     = api.ErrClockCall
	noLeases = api.ErrClockLeases
	noLease  = api.ErrClockLease
	none     = api.ErrChainNone
	once     = api.ErrChainOnce
)

// takesLong is for a test whose calls go by turns: where the race detector looks on, it would find no more than the others do.
func takesLong(t *testing.T) {
	t.Helper()
	if testing.Short() {
		t.Skip("it takes long")
	}
}

// mixed: a Play's arguments.
type mixed struct {
	sizes
	c api.Case
}

func (x mixed) play() (api.Run, [][]int, api.Errno) {
	return trim.Play(x.slots, x.workers, x.leases, x.c)
}

func wantPlay(t *testing.T, promise string, x mixed, want api.Run, rows [][]int) {
	t.Helper()
	run, got, err := x.play()
	if err != api.OK || !sameRun(run, want) || !sameLists(got, rows) {
		t.Fatalf("%s: Play(%+v)\ngot  %+v %v %v\nwant %+v %v", promise, x, run, got, err, want, rows)
	}
}

// wantModel holds a Play against the model.
func wantModel(t *testing.T, promise string, x mixed) (api.Run, state) {
	t.Helper()
	m := newModel(x.sizes)
	m.plays = true
	run, _ := m.run(x.c, nil)
	wantPlay(t, promise, x, run, m.told().rows())
	return run, m.told()
}

// filmed: a run of calls by their names, whose steps they were, and what there is behind each step; the first moment is ahead of all.
type filmed struct {
	mixed
	run     api.Run
	picks   []pick
	moments []state
}

// wantFilm holds a run of calls by their names over a new cell against the model, step by step.
func wantFilm(t *testing.T, promise string, x mixed) filmed {
	t.Helper()
	m := newModel(x.sizes)
	m.films = true
	want, picks := m.run(x.c, nil)
	r := newReal(t, x.sizes)
	run, err := crew.Run(x.c, r)
	if err != api.OK || !sameRun(run, want) || !r.state().same(m.told()) {
		t.Fatalf("%s: %+v\ngot  %+v %+v %v\nwant %+v %+v", promise, x, run, r.state(), err, want, m.told())
	}
	seen := newReal(t, x.sizes).film(t, x.c, picks)
	for i, s := range m.film {
		if !seen[i].same(s) {
			t.Fatalf("%s: %+v: behind step %d: %+v, want %+v", promise, x, i+1, seen[i], s)
		}
	}
	return filmed{x, run, picks, append([]state{newState(x.sizes)}, seen...)}
}

// film does the steps of a case, with a worker more that looks behind each of them.
func (r real) film(t *testing.T, c api.Case, picks []pick) []state {
	t.Helper()
	if len(picks) == 0 {
		return nil
	}
	n := len(c.Work)
	var seen []state
	c.Work = append(slices.Clone(c.Work), []api.Call{{}})
	c.Halt = c.Halt[:min(n, len(c.Halt))]
	c.Until = 2 * len(picks)
	c.Turns = nil
	for _, p := range picks {
		c.Turns = append(c.Turns, slices.Index(p.ready, p.k), -1) // the last one that is ready is who looks
	}
	run, err := crew.Run(c, does(func(w *crew.Worker, call api.Call) api.Answer {
		if w.Number() < n {
			return r.Do(w, call)
		}
		for range picks {
			w.Step()
			seen = append(seen, r.state())
		}
		return api.Answer{}
	}))
	if err != api.OK || run.Steps != 2*len(picks) || len(seen) != len(picks) {
		t.Fatalf("%+v: %+v, %v: %d moments of %d", c, run, err, len(seen), len(picks))
	}
	return seen
}

// turnsOf: the turns by which a case whose steps were told goes so again.
func turnsOf(picks []pick) []int {
	var turns []int
	for _, p := range picks {
		turns = append(turns, slices.Index(p.ready, p.k))
	}
	return turns
}

var (
	badSlots     = []int{lowest, lowest + 1, -1 << 32, -4096, -1, 0, mostSlots + 1, mostSlots + 2, 8192, 1 << 20, 1 << 32, 1<<32 + 1, highest - 1, highest}
	badLeases    = []int{lowest, lowest + 1, -1 << 32, -64, -1, 0, mostLeases + 1, mostLeases + 2, 128, 1 << 32, 1<<32 + 1, highest - 1, highest}
	badRegisters = []int{lowest, lowest + 1, -1 << 32, -4, -1, 4, 5, 8, 1 << 32, 1<<32 + 1, highest - 1, highest}
	badKinds     = []int{lowest, lowest + 1, -9, -1, 0, 10, 11, 101, 107, 1<<32 + 1, highest - 1, highest}
	farNumbers   = []int{lowest, lowest + 1, -1 << 32, api.Poison, -65, -2, -1, 0, 1, 2, 63, 64, 65, 1 << 32, 1<<40 + 1, 2<<40 + 1, highest - 1, highest}
	fewHalts     = []int{lowest, -1, 0, 0, 0, 0, 1, 2, 3, 5, 8, 12, 20, 33, 60, highest}
	fewUntils    = []int{1, 2, 3, 7, 15, 40, 90, 200}
)

// manners: which calls come.
type manners struct {
	wild  bool // calls that can't be, registers that there aren't
	named bool // calls that Play hasn't, by which chains are spoilt
}

func (m *mixer) call(how manners) api.Call {
	c := api.Call{Kind: m.one([]int{1, 2, 2, 2, 2, 2, 3, 3, 4, 4, 4, 5, 5, 6, 6, 6, 7, 7, 7, 8, 8, 8, 9, 9})}
	switch {
	case c.Kind <= 2 && m.below(3) == 0:
		c.A = m.one(farNumbers)
	case c.Kind <= 2:
		c.A = m.below(1000)
	case c.Kind <= 6:
		c.A = m.below(2)
	}
	if how.wild && m.below(10) == 0 {
		c.Kind = m.one(badKinds)
	}
	if how.wild && m.below(6) == 0 {
		c.A = m.one([]int{0, 1, 2, 3, m.one(badRegisters)})
	}
	if how.named && m.below(5) == 0 {
		return m.namedCall()
	}
	return c
}

// namedCall: one that Play hasn't.
func (m *mixer) namedCall() api.Call {
	h := word(1+m.below(6), 1+2*m.below(2))
	switch m.below(16) {
	case 0:
		return enter()
	case 1:
		return leave()
	case 2:
		return slot(m.below(9))
	case 3, 13, 14:
		return give(h)
	case 4:
		return first(h)
	case 5:
		return push(m.one([]int{0, h, h}), word(1+m.below(6), 1), m.one([]int{0, 5, h}), m.one(farNumbers))
	case 6:
		return cut(h)
	case 7:
		return retire(m.one([]int{h, m.one(farNumbers)}))
	case 8:
		return lease()
	case 9:
		return release(m.below(3))
	case 10, 11, 12:
		return link(h, m.one([]int{-1, 0, 5, word(1, 2)}))
	}
	return mark(h, m.below(2), 1+m.below(3))
}

func (m *mixer) mixed(how manners) mixed {
	x := mixed{sizes: sizes{
		slots:   m.one([]int{1, 2, 3, 4, 5, 6, 8, 12, 12, 20, 20, 40}),
		workers: m.one([]int{lowest, 0, 1, 2, 3, 4, 4, 4, 4, 8, 9, highest}),
		leases:  m.one([]int{1, 1, 2, 2, 3, 3, 8, mostLeases}),
	}}
	for range 1 + m.below(4) {
		var calls []api.Call
		for range m.below(12) {
			calls = append(calls, m.call(how))
		}
		x.c.Work = append(x.c.Work, calls)
	}
	if m.below(8) != 0 {
		x.c.Work[0] = append([]api.Call{begin(m.below(100))}, x.c.Work[0]...)
		x.c.Turns = make([]int, m.below(10))
	}
	for range m.below(120) {
		x.c.Turns = append(x.c.Turns, m.one(farNumbers)+m.below(8))
	}
	// A worker that goes on for some time makes that others meet what it left.
	for range m.below(8) {
		k, times := m.below(8), m.below(25)
		x.c.Turns = append(x.c.Turns, slices.Repeat([]int{k}, times)...)
	}
	if m.below(2) == 0 {
		for range m.below(7) {
			x.c.Halt = append(x.c.Halt, m.one(fewHalts))
		}
		if m.below(3) == 0 {
			x.c.Until = m.one(fewUntils)
		}
	}
	return x
}

// mixedPlays calls f with so many Plays' arguments.
func mixedPlays(count int, how manners, f func(x mixed)) {
	m := mixer(count)
	for range count {
		f(m.mixed(how))
	}
}
