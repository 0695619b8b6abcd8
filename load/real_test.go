package load_test

import (
	"reflect"
	"slices"
	"testing"

	"skein/api"
	"skein/chain"
	"skein/clock"
	"skein/crew"
	"skein/load"
	"skein/pool"
	"skein/trie"
)

// real: a Load, its pool and its chains; their calls are done by their names.
type real struct {
	x      *load.Load
	p      *pool.Pool
	chains []*chain.Chain
}

// newReal makes one as a Play would, but that there may be any number of parts.
func newReal(t *testing.T, s api.Setup) real {
	t.Helper()
	p, err := pool.New(s.Slots)
	if err != api.OK {
		t.Fatalf("pool.New(%d): %v", s.Slots, err)
	}
	c, err := clock.New(1)
	if err != api.OK {
		t.Fatalf("clock.New: %v", err)
	}
	r := real{p: p}
	for range s.Parts {
		r.chains = append(r.chains, chain.New(p, c))
	}
	r.x = load.New(p, r.chains, s.Source, s.Fails)
	return r
}

// parts: a setup of so many parts and slots; the source is a key and its value, by turns.
func parts(parts, slots int, source ...int) api.Setup {
	return api.Setup{Parts: parts, Workers: 2, Slots: slots, Leases: 1, Source: pairs(source...)}
}

// failing: a setup of which so many loadings of each part fail.
func failing(s api.Setup, fails int) api.Setup {
	s.Fails = fails
	return s
}

func (r real) state() state {
	s := state{states: r.x.States(), slots: r.p.Slots(), free: r.p.Free(), faults: r.p.Faults()}
	for _, c := range r.chains {
		s.versions = append(s.versions, c.Versions())
	}
	return s
}

func (r real) Do(w *crew.Worker, c api.Call) api.Answer {
	switch c.Kind {
	case 1:
		return told(0, r.x.Ready(w, c.A))
	case 2:
		return told(0, r.x.Wait(w, c.A))
	case 3:
		return told(r.x.State(w, c.A))
	case 4:
		return r.tell(w, c.A)
	case kindSlot:
		return told(r.p.Take(w, api.Node{A: c.A}, 0))
	case kindGive:
		return told(0, r.p.Give(w, c.A))
	case kindFirst:
		return told(r.chains[c.A].First(w, api.Node{A: c.B, B: c.C}))
	}
	w.Step()
	return told(0, api.ErrLoadCall)
}

// tell tells what a part holds, as Play's call does.
func (r real) tell(w *crew.Worker, part int) api.Answer {
	if part < 0 || part >= len(r.chains) {
		w.Step()
		return told(0, api.ErrLoadPart)
	}
	h, _, err := r.chains[part].Top(w)
	if err != api.OK {
		return told(0, err)
	}
	x, err := r.p.Read(w, h)
	if err != api.OK {
		return told(0, err)
	}
	a := told(x.B, api.OK)
	for pair, err := range trie.New(r.p).Walk(w, x.A, 0, api.MaxKey) {
		if err != api.OK {
			return told(0, err)
		}
		a.Pairs = append(a.Pairs, pair)
	}
	return a
}

// by does a call by a worker of a run; its answer tells how many lines it did by itself.
func (r real) by(t *testing.T, c api.Call) api.Answer {
	t.Helper()
	run, err := crew.Run(work([]api.Call{c}), does(func(w *crew.Worker, c api.Call) api.Answer {
		w.Step() // so that a call without a line doesn't look like one that has one
		return r.Do(w, c)
	}))
	if err != api.OK || run.Cut || len(run.Answers[0]) != 1 {
		t.Fatalf("%+v: %+v, %v", c, run, err)
	}
	a := run.Answers[0][0]
	a.Own--
	return a
}

// do does calls, one behind the other, all of which go well.
func (r real) do(t *testing.T, calls ...api.Call) real {
	t.Helper()
	for _, c := range calls {
		if a := r.by(t, c); !a.Ok {
			t.Fatalf("%+v: %+v", c, a)
		}
	}
	return r
}

// halted does so many lines of a call, and no more.
func (r real) halted(t *testing.T, c api.Call, lines int) real {
	t.Helper()
	k := work([]api.Call{c})
	k.Halt = []int{lines}
	run, err := crew.Run(k, r)
	if err != api.OK || run.Steps != lines || len(run.Open) != 1 {
		t.Fatalf("%+v, halted behind %d lines: %+v, %v", c, lines, run, err)
	}
	return r
}

// broken does a call of worker 0, broken off behind so many lines by the others, which are worker 1's.
func (r real) broken(t *testing.T, call api.Call, at int, others ...api.Call) (api.Answer, []api.Answer) {
	t.Helper()
	c := work([]api.Call{call}, others)
	c.Turns = append(make([]int, at), slices.Repeat([]int{1}, 400)...)
	run, err := crew.Run(c, r)
	if err != api.OK || run.Cut || len(run.Answers[0]) != 1 || len(run.Answers[1]) != len(others) {
		t.Fatalf("%+v, broken off behind %d lines: %+v, %v", call, at, run, err)
	}
	return run.Answers[0][0], run.Answers[1]
}

// change: what a line changes.
type change func(s *state)

// still: nothing is changed, by so many lines.
func still(lines int) []change { return slices.Repeat([]change{func(*state) {}}, lines) }

// becomes: a part has another state.
func becomes(part, is int) change { return func(s *state) { s.states[part] = is } }

// takes: pool.Take's lines, of a slot that is the first free one.
func takes(i int, x api.Node) []change {
	return lines(still(2), func(s *state) {
		s.slots[i-1] = api.Slot{Gen: s.slots[i-1].Gen + 1, Node: x}
		s.free = slices.DeleteFunc(s.free, func(j int) bool { return i == j })
	})
}

// back: pool.Give's lines.
func back(slots ...int) []change {
	var list []change
	for _, i := range slots {
		leaves := func(s *state) { s.slots[i-1] = given(s.slots[i-1].Gen + 1) }
		lies := func(s *state) { s.free = append([]int{i}, s.free...) }
		list = append(list, lines(leaves, still(2), lies)...)
	}
	return list
}

// leads: chain.First's lines, into slot i.
func leads(part, i, root int) []change {
	return lines(takes(i, api.Node{A: root, B: 1}), stamped(i), func(s *state) {
		s.versions[part] = []int{word(i, s.slots[i-1].Gen)}
	})
}

// leadsLate: those of a First that comes late.
func leadsLate(i, root int) []change {
	return lines(takes(i, api.Node{A: root, B: 1}), stamped(i), still(1), back(i))
}

func stamped(i int) change { return func(s *state) { s.slots[i-1].Mark = 1 } }

func faulty(s *state) { s.faults++ }

// lines: what the lines of a call change, one behind the other.
func lines(list ...any) []change {
	var all []change
	for _, p := range list {
		switch x := p.(type) {
		case []change:
			all = append(all, x...)
		case change:
			all = append(all, x)
		case func(*state):
			all = append(all, x)
		}
	}
	return all
}

// leaf, inner: the nodes of a trie.
func leaf(key, value int) api.Node { return api.Node{B: key, C: value, D: 1} }
func inner(first, place, left, right, count int) api.Node {
	return api.Node{A: first*64 + place + 1, B: left, C: right, D: count}
}

// wantLines does a call and looks behind each of its lines.
func (r real) wantLines(t *testing.T, promise string, call api.Call, want api.Answer, changes []change) {
	t.Helper()
	is := r.state()
	var seen []state
	c := work([]api.Call{call}, []api.Call{{}})
	for range changes {
		c.Turns = append(c.Turns, 0, 1)
	}
	run, err := crew.Run(c, does(func(w *crew.Worker, c api.Call) api.Answer {
		if w.Number() == 0 {
			return r.Do(w, c)
		}
		for range changes {
			w.Step()
			seen = append(seen, r.state())
		}
		return api.Answer{}
	}))
	if err != api.OK || run.Steps != 2*len(changes) || len(run.Answers[0]) != 1 {
		t.Fatalf("%s: %+v: %+v, %v, want %d lines", promise, call, run, err, len(changes))
	}
	if a := run.Answers[0][0]; !sameAnswer(a, want) || a.Own != len(changes) {
		t.Errorf("%s: %+v: %+v, want %+v in %d lines", promise, call, a, want, len(changes))
	}
	for i, f := range changes {
		is = is.clone()
		f(&is)
		if !seen[i].same(is) {
			t.Fatalf("%s: %+v: behind line %d: %+v, want %+v", promise, call, i+1, seen[i], is)
		}
	}
}

func (r real) wantState(t *testing.T, promise string, want state) {
	t.Helper()
	if got := r.state(); !got.same(want) {
		t.Fatalf("%s: %+v, want %+v", promise, got, want)
	}
}

// wants does a call by a worker and asks for its answer and its lines.
func (r real) wants(t *testing.T, promise string, c api.Call, want api.Answer, lines int) {
	t.Helper()
	if a := r.by(t, c); !sameAnswer(a, want) || a.Own != lines {
		t.Fatalf("%s: %+v: %+v, want %+v in %d lines", promise, c, a, want, lines)
	}
}

func sameAnswer(a, b api.Answer) bool {
	a.Begin, a.End, a.Own = b.Begin, b.End, b.Own
	return reflect.DeepEqual(plainRun(api.Run{Answers: [][]api.Answer{{a}}}), plainRun(api.Run{Answers: [][]api.Answer{{b}}}))
}

func good() api.Answer                       { return api.Answer{Ok: true} }
func is(n int) api.Answer                    { return api.Answer{Ok: true, N: n} }
func failed(err api.Errno) api.Answer        { return api.Answer{Err: err} }
func many(n int, c api.Call) []api.Call      { return slices.Repeat([]api.Call{c}, n) }
func first1(list ...int) api.Answer          { return api.Answer{Ok: true, N: 1, Pairs: pairs(list...)} }
func firstOf(list []api.Pair) api.Answer     { return api.Answer{Ok: true, N: 1, Pairs: list} }
func own(lines int, a api.Answer) api.Answer { a.Own = lines; return a }

// The errors that calls answer most.
const (
	noCall = api.ErrLoadCall
	noPart = api.ErrLoadPart
	busy   = api.ErrLoadBusy
	fails  = api.ErrLoadFailed
	full   = api.ErrPoolFull
	none   = api.ErrChainNone
	once   = api.ErrChainOnce
	gone   = api.ErrPoolGone
)

// mixed: a Play's arguments.
type mixed struct {
	s api.Setup
	c api.Case
}

func wantPlay(t *testing.T, promise string, x mixed, want api.Run, rows [][]int) {
	t.Helper()
	run, got, err := load.Play(x.s, x.c)
	if err != api.OK || !sameRun(run, want) || !sameLists(got, rows) {
		t.Fatalf("%s: Play(%+v, %+v)\ngot  %+v %v %v\nwant %+v %v", promise, x.s, x.c, run, got, err, want, rows)
	}
}

// wantModel holds a Play against the model.
func wantModel(t *testing.T, promise string, x mixed) (api.Run, state) {
	t.Helper()
	m := newModel(x.s)
	run, _ := m.run(x.c)
	wantPlay(t, promise, x, run, m.told().rows())
	return run, m.told()
}

// filmed: a run of calls by their names, whose steps they were, and what there is behind each step; the first moment is ahead of all.
type filmed struct {
	mixed
	run     api.Run
	picks   []pick
	moments []state
}

// wantFilm holds a run of calls by their names over a new Load against the model, step by step.
func wantFilm(t *testing.T, promise string, x mixed) filmed {
	t.Helper()
	m := newModel(x.s)
	m.films = true
	want, picks := m.run(x.c)
	r := newReal(t, x.s)
	run, err := crew.Run(x.c, r)
	if err != api.OK || !sameRun(run, want) || !r.state().same(m.told()) {
		t.Fatalf("%s: %+v\ngot  %+v %+v %v\nwant %+v %+v", promise, x, run, r.state(), err, want, m.told())
	}
	seen := newReal(t, x.s).film(t, x.c, picks)
	for i, s := range m.film {
		if !seen[i].same(s) {
			t.Fatalf("%s: %+v: behind step %d: %+v, want %+v", promise, x, i+1, seen[i], s)
		}
	}
	return filmed{x, run, picks, append([]state{newState(x.s.Parts, x.s.Slots)}, seen...)}
}

// film does the steps of a case, with a worker more that looks behind each of them.
func (r real) film(t *testing.T, c api.Case, picks []pick) []state {
	t.Helper()
	if len(picks) == 0 {
		return nil
	}
	n := len(c.Work)
	var seen []state
	c.Work = append(slices.Clone(c.Work), []api.Call{{}})
	c.Halt = c.Halt[:min(n, len(c.Halt))]
	c.Until = 2 * len(picks)
	c.Turns = nil
	for _, p := range picks {
		c.Turns = append(c.Turns, slices.Index(p.ready, p.k), -1) // the last one that is ready is who looks
	}
	run, err := crew.Run(c, does(func(w *crew.Worker, call api.Call) api.Answer {
		if w.Number() < n {
			return r.Do(w, call)
		}
		for range picks {
			w.Step()
			seen = append(seen, r.state())
		}
		return api.Answer{}
	}))
	if err != api.OK || run.Steps != 2*len(picks) || len(seen) != len(picks) {
		t.Fatalf("%+v: %+v, %v: %d moments of %d", c, run, err, len(seen), len(picks))
	}
	return seen
}

var (
	noSlots    = []int{lowest, lowest + 1, -1 << 32, -4096, -1, 0, mostSlots + 1, mostSlots + 2, 8192, 1 << 20, 1 << 32, 1<<32 + 1, highest - 1, highest}
	noLeases   = []int{lowest, lowest + 1, -1 << 32, -64, -1, 0, 65, 66, 128, 1 << 32, 1<<32 + 1, highest - 1, highest}
	noParts    = []int{lowest, lowest + 1, -1 << 32, -64, -1, 0, 65, 66, 128, 1 << 32, 1<<32 + 1, highest - 1, highest}
	noKeys     = []int{lowest, lowest + 1, -1 << 32, -2, -1, mostKey + 1, mostKey + 2, 1 << 33, 1 << 58, 1 << 59, 1 << 62, highest - 1, highest}
	noKinds    = []int{lowest, lowest + 1, -4, -1, 0, 5, 6, 101, 103, 1<<32 + 1, highest - 1, highest}
	farNumbers = []int{lowest, lowest + 1, -1 << 32, -65, -2, -1, 0, 1, 2, 63, 64, 65, 1 << 32, highest - 1, highest}
	fewHalts   = []int{lowest, -1, 0, 0, 0, 0, 1, 2, 3, 5, 8, 12, 20, 33, 60, highest}
	fewUntils  = []int{1, 2, 3, 7, 15, 40, 90, 300}
)

// notOf: numbers that are no parts of so many.
func notOf(parts int) []int {
	return []int{lowest, lowest + 1, -1 << 40, -1 << 32, -parts - 1, -parts, -1, parts, parts + 1, parts + 64, 1 << 32, 1 << 40, highest - 1, highest}
}

// manners: which calls come.
type manners struct {
	wild  bool // calls that can't be, parts that there aren't
	named bool // calls that Play hasn't
}

func (m *mixer) call(s api.Setup, how manners) api.Call {
	c := api.Call{Kind: m.one([]int{1, 1, 1, 2, 2, 2, 3, 4}), A: m.below(s.Parts), B: m.below(3), C: m.below(3)}
	if how.named && m.below(5) == 0 {
		h := word(1+m.below(s.Slots), 1+2*m.below(3))
		c = []api.Call{slot(m.below(9)), give(h), give(h), first(m.below(s.Parts), 0, 1)}[m.below(4)]
	}
	if how.wild && m.below(8) == 0 {
		c.A = m.one(notOf(s.Parts))
		c.Kind = m.one([]int{1, 2, 3, 4, m.one(noKinds[:7])})
	}
	return c
}

// source: few pairs, of few keys, some of which are none.
func (m *mixer) source(parts int) []api.Pair {
	var list []api.Pair
	for range m.below(10) {
		x := api.Pair{Key: least(m.below(parts), parts) + m.one([]int{0, 1, 2, 3, 1 << 20}), Value: m.below(3)}
		switch m.below(8) {
		case 0:
			x.Key = m.one(noKeys)
		case 1:
			x.Key = mostKey - m.below(2)
		case 2:
			x.Value = m.one(farNumbers)
		}
		list = append(list, x)
	}
	return list
}

func (m *mixer) mixed(how manners) mixed {
	n := m.one([]int{1, 1, 1, 2, 2, 3, 5, mostParts})
	x := mixed{s: api.Setup{Parts: n, Workers: m.one(farNumbers), Slots: m.one([]int{1, 2, 3, 4, 5, 6, 9, 20, 20, 40}), Leases: 1, Source: m.source(n), Fails: m.one([]int{0, 0, 0, 1, 2, -1, lowest, highest})}}
	for range 1 + m.below(4) {
		var calls []api.Call
		for range m.below(9) {
			calls = append(calls, m.call(x.s, how))
		}
		x.c.Work = append(x.c.Work, calls)
	}
	for range m.below(90) {
		x.c.Turns = append(x.c.Turns, m.one(farNumbers)+m.below(8))
	}
	// A worker that goes on for some time makes that others meet what it left.
	for range m.below(8) {
		k, times := m.below(8), m.below(25)
		x.c.Turns = append(x.c.Turns, slices.Repeat([]int{k}, times)...)
	}
	x.c.Until = 900 // a Wait may go round and round
	if m.below(2) == 0 {
		for range m.below(7) {
			x.c.Halt = append(x.c.Halt, m.one(fewHalts))
		}
		if m.below(3) == 0 {
			x.c.Until = m.one(fewUntils)
		}
	}
	return x
}

// mixedPlays calls f with so many Plays' arguments.
func mixedPlays(count int, how manners, f func(x mixed)) {
	m := mixer(count)
	for range count {
		f(m.mixed(how))
	}
}
