package part_test

import (
	"reflect"
	"slices"
	"testing"

	"skein/api"
	"skein/chain"
	"skein/clock"
	"skein/crew"
	"skein/epoch"
	"skein/load"
	"skein/part"
	"skein/pool"
)

// real: a map's parts, and what they are made of; their calls are done by their names.
type real struct {
	p      *pool.Pool
	k      *clock.Clock
	e      *epoch.Epoch
	chains []*chain.Chain
	l      *load.Load
	parts  []*part.Part
}

// newReal makes one as a Play would.
func newReal(t *testing.T, s api.Setup) real {
	t.Helper()
	p, err := pool.New(s.Slots)
	if err != api.OK {
		t.Fatalf("pool.New(%d): %v", s.Slots, err)
	}
	k, err := clock.New(1)
	if err != api.OK {
		t.Fatalf("clock.New: %v", err)
	}
	r := real{p: p, k: k, e: epoch.New(p, s.Workers)}
	for range s.Parts {
		r.chains = append(r.chains, chain.New(p, k))
	}
	r.l = load.New(p, r.chains, s.Source, s.Fails)
	for i := range s.Parts {
		r.parts = append(r.parts, part.New(i, s.Parts, p, r.e, r.chains[i], r.l))
	}
	return r
}

// parts: a setup of so many parts and slots, and of three workers; the source is a key and its value, by turns.
func parts(parts, slots int, source ...int) api.Setup {
	return api.Setup{Parts: parts, Workers: 3, Slots: slots, Leases: 1, Source: pairs(source...)}
}

// failing: a setup of which so many loadings of each part fail.
func failing(s api.Setup, fails int) api.Setup {
	s.Fails = fails
	return s
}

// crewOf: a setup for so many workers.
func crewOf(s api.Setup, workers int) api.Setup {
	s.Workers = workers
	return s
}

// there makes one whose parts are all loaded.
func there(t *testing.T, s api.Setup) real {
	t.Helper()
	r := newReal(t, s)
	for i := range s.Parts {
		r.do(t, ready(i))
	}
	return r
}

func (r real) state() state { return r.stateBy(func(c *chain.Chain, h int) []int { return c.Set(h) }) }

// looker tells states one behind the other; of a version's set, which nobody changes as long as it isn't cut off, what it told first: to ask takes long.
func (r real) looker() func() state {
	told := map[int][]int{}
	set := func(c *chain.Chain, h int) []int {
		list, ok := told[h]
		if !ok {
			list = c.Set(h)
			told[h] = list
		}
		return list
	}
	return func() state { return r.stateBy(set) }
}

func (r real) stateBy(set func(c *chain.Chain, h int) []int) state {
	s := state{
		states: r.l.States(), slots: r.p.Slots(), free: r.p.Free(), faults: r.p.Faults(),
		stamp: r.k.Now(nil), epoch: r.e.Now(), at: r.e.At(),
	}
	for _, c := range r.chains {
		list := c.Versions()
		var sets [][]int
		for _, h := range list {
			sets = append(sets, set(c, h))
		}
		s.versions, s.sets = append(s.versions, list), append(s.sets, sets)
	}
	for k := range s.at {
		s.waiting = append(s.waiting, r.e.Waiting(k))
	}
	return s
}

// ofPart does a call of a part.
func (r real) ofPart(w *crew.Worker, n int, c api.Call) (api.Told, api.Errno) {
	return callOf(w, r.parts[n], c)
}

func callOf(w *crew.Worker, a *part.Part, c api.Call) (api.Told, api.Errno) {
	switch c.Kind {
	case 1:
		return a.Get(w, c.A)
	case 2:
		return a.Put(w, c.A, c.B)
	case 3:
		return a.Drop(w, c.A)
	case 4:
		return a.Swap(w, c.A, c.B, c.C)
	}
	return a.Many(w, c.Pairs)
}

func (r real) Do(w *crew.Worker, c api.Call) api.Answer {
	switch c.Kind {
	case 1, 2, 3, 4, 5:
		n := target(c, len(r.parts))
		if n < 0 {
			w.Step()
			return full(api.Told{}, api.ErrPartKey)
		}
		return full(r.ofPart(w, n, c))
	case 6:
		return api.Answer{Ok: r.e.Advance(w)}
	case 7:
		return went(r.e.Collect(w))
	case 8:
		return went(0, r.e.Enter(w))
	case 9:
		return went(0, r.e.Leave(w))
	case kindSlot:
		return went(r.p.Take(w, api.Node{A: c.A, B: c.B, C: c.C, D: c.Pairs[0].Key}, 0))
	case kindGive:
		return went(0, r.p.Give(w, c.A))
	case kindFirst:
		return went(r.chains[c.A].First(w, api.Node{A: c.B, B: c.C}))
	case kindPush:
		return r.publish(w, c)
	case kindRetire:
		return went(0, r.e.Retire(w, c.A))
	case kindTick:
		s, err := r.k.Take(w)
		if err == api.OK {
			err = r.k.Release(w, s.Lease)
		}
		return went(0, err)
	case kindReady:
		return went(0, r.l.Ready(w, c.A))
	}
	if c.Kind >= kindOf {
		n := (c.Kind - kindOf) / 10
		c.Kind = (c.Kind - kindOf) % 10
		return full(r.ofPart(w, n, c))
	}
	w.Step()
	return api.Answer{Err: api.ErrPartCall}
}

// publish lays a version of any node upon the newest one.
func (r real) publish(w *crew.Worker, c api.Call) api.Answer {
	h, _, err := r.chains[c.A].Top(w)
	if err != api.OK {
		return went(0, err)
	}
	_, ok, err := r.chains[c.A].Push(w, h, api.Node{A: c.B, B: c.C}, nil)
	return api.Answer{Ok: ok, Err: err}
}

// by does a call by worker 0 of a run; its answer tells how many lines it did by itself.
func (r real) by(t *testing.T, c api.Call) api.Answer {
	t.Helper()
	return lonely(t, work([]api.Call{c}), r)
}

// lonely does the last call of a case, whose other workers have none; Own tells how many lines it did by itself.
func lonely(t *testing.T, c api.Case, d crew.Does) api.Answer {
	t.Helper()
	run, err := crew.Run(c, does(func(w *crew.Worker, c api.Call) api.Answer {
		w.Step() // so that a call without a line doesn't look like one that has one
		return d.Do(w, c)
	}))
	last := len(c.Work) - 1
	if err != api.OK || run.Cut || len(run.Answers[last]) != 1 {
		t.Fatalf("%+v: %+v, %v", c, run, err)
	}
	a := run.Answers[last][0]
	a.Own--
	return a
}

// do does calls, one behind the other, all without an error.
func (r real) do(t *testing.T, calls ...api.Call) real {
	t.Helper()
	for _, c := range calls {
		if a := r.by(t, c); a.Err != api.OK {
			t.Fatalf("%+v: %+v", c, a)
		}
	}
	return r
}

// halted does so many lines of a call of worker 0, and no more.
func (r real) halted(t *testing.T, c api.Call, lines int) real {
	t.Helper()
	k := work([]api.Call{c})
	k.Halt = []int{lines}
	run, err := crew.Run(k, r)
	if err != api.OK || run.Steps != lines || len(run.Open) != 1 {
		t.Fatalf("%+v, halted behind %d lines: %+v, %v", c, lines, run, err)
	}
	return r
}

// broken does a call of worker 0, broken off behind so many lines by the others, which are worker 1's.
func (r real) broken(t *testing.T, call api.Call, at int, others ...api.Call) (api.Answer, []api.Answer) {
	t.Helper()
	c := work([]api.Call{call}, others)
	c.Turns = append(make([]int, at), slices.Repeat([]int{1}, 600)...)
	run, err := crew.Run(c, r)
	if err != api.OK || run.Cut || len(run.Answers[0]) != 1 || len(run.Answers[1]) != len(others) {
		t.Fatalf("%+v, broken off behind %d lines: %+v, %v", call, at, run, err)
	}
	return run.Answers[0][0], run.Answers[1]
}

// change: what a line changes.
type change func(s *state)

// still: nothing is changed, by so many lines.
func still(lines int) []change { return slices.Repeat([]change{func(*state) {}}, lines) }

// becomes: a part has another state.
func becomes(part, is int) change { return func(s *state) { s.states[part] = is } }

// takes: pool.Take's lines, of a slot that is the first free one.
func takes(i int, x api.Node) []change { return takesWith(i, x, 0) }

func takesWith(i int, x api.Node, link int) []change {
	return lines(still(2), func(s *state) {
		s.slots[i-1] = api.Slot{Gen: s.slots[i-1].Gen + 1, Node: x, Link: link}
		s.free = slices.DeleteFunc(s.free, func(j int) bool { return i == j })
	})
}

// back: pool.Give's lines.
func back(slots ...int) []change {
	var list []change
	for _, i := range slots {
		leaves := func(s *state) { s.slots[i-1] = given(s.slots[i-1].Gen + 1) }
		lies := func(s *state) { s.free = append([]int{i}, s.free...) }
		list = append(list, lines(leaves, still(2), lies)...)
	}
	return list
}

// leads: chain.First's lines, into slot i.
func leads(part, i, root int) []change {
	return lines(takes(i, api.Node{A: root, B: 1}), stamped(i, 1), func(s *state) {
		s.versions[part] = []int{word(i, s.slots[i-1].Gen)}
		s.sets[part] = [][]int{nil}
	})
}

// follows: chain.Push's lines, into slot i, upon the newest version.
func follows(part, i, root, number int, set ...int) []change {
	return lines(behind(part, i, root, number, set...), still(2), stamped(i, 1))
}

// behind: those up to the cas of the head.
func behind(part, i, root, number int, set ...int) []change {
	var old int
	return lines(func(s *state) { old = s.versions[part][0] }, still(1), func(s *state) {
		takesWith(i, api.Node{A: root, B: number}, old)[2](s)
	}, func(s *state) {
		s.versions[part] = append([]int{word(i, s.slots[i-1].Gen)}, s.versions[part]...)
		s.sets[part] = append([][]int{set}, s.sets[part]...)
	})
}

// late: chain.Push's lines, into slot i, upon what isn't the newest version any more.
func late(i, root, number, old int) []change {
	return lines(takesWith(i, api.Node{A: root, B: number}, old), still(1), back(i))
}

func stamped(i, stamp int) change { return func(s *state) { s.slots[i-1].Mark = stamp } }

func faulty(s *state) { s.faults++ }

// comes, goes: Enter's lines and Leave's, of worker 0.
func comes() []change {
	return lines(still(1), func(s *state) { s.at[0] = s.epoch })
}

func goes(s *state) { s.at[0] = 0 }

// lines: what the lines of a call change, one behind the other.
func lines(list ...any) []change {
	var all []change
	for _, p := range list {
		switch x := p.(type) {
		case []change:
			all = append(all, x...)
		case change:
			all = append(all, x)
		case func(*state):
			all = append(all, x)
		}
	}
	return all
}

// inside: the lines of a call of a part that is there, with those that come ahead (the state, Enter, Top, Read) and behind (Leave).
func inside(list ...any) []change {
	return lines(still(1), comes(), still(3), lines(list...), goes)
}

// leaf, inner: the nodes of a trie.
func leaf(key, value int) api.Node { return api.Node{B: key, C: value, D: 1} }
func inner(first, place, left, right, count int) api.Node {
	return api.Node{A: first*64 + place + 1, B: left, C: right, D: count}
}

// wantLines does a call and looks behind each of its lines.
func (r real) wantLines(t *testing.T, promise string, call api.Call, want api.Answer, changes []change) {
	t.Helper()
	is := r.state()
	var seen []state
	c := work([]api.Call{call}, []api.Call{{}})
	for range changes {
		c.Turns = append(c.Turns, 0, 1)
	}
	run, err := crew.Run(c, does(func(w *crew.Worker, c api.Call) api.Answer {
		if w.Number() == 0 {
			return r.Do(w, c)
		}
		for range changes {
			w.Step()
			seen = append(seen, r.state())
		}
		return api.Answer{}
	}))
	if err != api.OK || run.Steps != 2*len(changes) || len(run.Answers[0]) != 1 {
		t.Fatalf("%s: %+v: %+v, %v, want %d lines", promise, call, run, err, len(changes))
	}
	if a := run.Answers[0][0]; !sameAnswer(a, want) || a.Own != len(changes) {
		t.Errorf("%s: %+v: %+v, want %+v in %d lines", promise, call, a, want, len(changes))
	}
	for i, f := range changes {
		is = is.clone()
		f(&is)
		if !seen[i].same(is) {
			t.Fatalf("%s: %+v: behind line %d: %+v, want %+v", promise, call, i+1, seen[i], is)
		}
	}
}

func (r real) wantState(t *testing.T, promise string, want state) {
	t.Helper()
	if got := r.state(); !got.same(want) {
		t.Fatalf("%s: %+v, want %+v", promise, got, want)
	}
}

// wants does a call by a worker and asks for its answer and its lines.
func (r real) wants(t *testing.T, promise string, c api.Call, want api.Answer, lines int) {
	t.Helper()
	if a := r.by(t, c); !sameAnswer(a, want) || a.Own != lines {
		t.Fatalf("%s: %+v: %+v, want %+v in %d lines", promise, c, a, want, lines)
	}
}

// wantHeld asks for what the newest version of a part holds, and its number.
func (r real) wantHeld(t *testing.T, promise string, part, number int, held ...int) {
	t.Helper()
	s := r.state()
	h := s.versions[part][0]
	if got := s.holds(s.node(h).A); s.node(h).B != number || !slices.Equal(got, pairs(held...)) {
		t.Fatalf("%s: part %d: number %d, %v, want %d, %v", promise, part, s.node(h).B, got, number, held)
	}
}

func sameAnswer(a, b api.Answer) bool {
	a.Begin, a.End, a.Own = b.Begin, b.End, b.Own
	return reflect.DeepEqual(plainRun(api.Run{Answers: [][]api.Answer{{a}}}), plainRun(api.Run{Answers: [][]api.Answer{{b}}}))
}

// What calls by their names tell: has, hasNone: what a Get, or a write that changes nothing, finds in a version; made, madeOf: what a write publishes, upon no value or upon one; laid: a Many's.
func has(value, number int) api.Answer {
	return full(api.Told{Value: value, Had: true, Number: number}, 0)
}
func hasNone(number int) api.Answer { return full(api.Told{Number: number}, 0) }
func made(number int) api.Answer    { return full(api.Told{Number: number, New: true}, 0) }
func madeOf(value, number int) api.Answer {
	return full(api.Told{Value: value, Had: true, Number: number, New: true}, 0)
}
func laid(count, number int) api.Answer {
	return full(api.Told{Number: number, New: true, Many: count}, 0)
}
func good() api.Answer                { return api.Answer{Ok: true} }
func failed(err api.Errno) api.Answer { return api.Answer{Err: err} }
func own(lines int, a api.Answer) api.Answer {
	a.Own = lines
	return a
}

// The errors that calls answer most.
const (
	noCall   = api.ErrPartCall
	noKey    = api.ErrPartKey
	other    = api.ErrPartOther
	notThere = api.ErrTrieNone
	noRoot   = api.ErrTrieRoot
	noPart   = api.ErrLoadPart
	busy     = api.ErrLoadBusy
	fails    = api.ErrLoadFailed
	noRoom   = api.ErrPoolFull
	none     = api.ErrChainNone
	once     = api.ErrChainOnce
	noHandle = api.ErrPoolHandle
	gone     = api.ErrPoolGone
	noWorker = api.ErrEpochWorker
	isOut    = api.ErrEpochOut
)

// takesLong is for a test whose calls go by turns: where the race detector looks on, it would find no more than the others do.
func takesLong(t *testing.T) {
	t.Helper()
	if testing.Short() {
		t.Skip("it takes long")
	}
}

// mixed: a Play's arguments.
type mixed struct {
	s api.Setup
	c api.Case
}

func wantPlay(t *testing.T, promise string, x mixed, want api.Run, rows [][]int) {
	t.Helper()
	run, got, err := part.Play(x.s, x.c)
	if err != api.OK || !sameRun(run, want) || !sameLists(got, rows) {
		t.Fatalf("%s: Play(%+v, %+v)\ngot  %+v %v %v\nwant %+v %v", promise, x.s, x.c, run, got, err, want, rows)
	}
}

// wantModel holds a Play against the model.
func wantModel(t *testing.T, promise string, x mixed) (api.Run, state) {
	t.Helper()
	m := newModel(x.s)
	run, _ := m.run(x.c, false)
	wantPlay(t, promise, x, run, m.told().rows())
	return run, m.told()
}

// filmed: a run of calls by their names, whose steps they were, the rounds of its writes, and what there is behind each step; the first moment is ahead of all.
type filmed struct {
	mixed
	run     api.Run
	picks   []pick
	rounds  []round
	moments []state
}

// wantFilm holds a run of calls by their names over new parts against the model, step by step.
func wantFilm(t *testing.T, promise string, x mixed) filmed {
	t.Helper()
	m := newModel(x.s)
	m.films = true
	want, picks := m.run(x.c, true)
	r := newReal(t, x.s)
	run, err := crew.Run(x.c, r)
	if err != api.OK || !sameRun(run, want) || !r.state().same(m.told()) {
		t.Fatalf("%s: %+v\ngot  %+v %+v %v\nwant %+v %+v", promise, x, run, r.state(), err, want, m.told())
	}
	seen := newReal(t, x.s).film(t, x.c, picks)
	for i, s := range m.film {
		if !seen[i].same(s) {
			t.Fatalf("%s: %+v: behind step %d: %+v, want %+v", promise, x, i+1, seen[i], s)
		}
	}
	return filmed{x, run, picks, m.rounds, append([]state{newState(x.s)}, seen...)}
}

// film does the steps of a case, with a worker more that looks behind each of them.
func (r real) film(t *testing.T, c api.Case, picks []pick) []state {
	t.Helper()
	if len(picks) == 0 {
		return nil
	}
	n := len(c.Work)
	var seen []state
	look := r.looker()
	c.Work = append(slices.Clone(c.Work), []api.Call{{}})
	c.Halt = c.Halt[:min(n, len(c.Halt))]
	c.Until = 2 * len(picks)
	c.Turns = nil
	for _, p := range picks {
		c.Turns = append(c.Turns, slices.Index(p.ready, p.k), -1) // the last one that is ready is who looks
	}
	run, err := crew.Run(c, does(func(w *crew.Worker, call api.Call) api.Answer {
		if w.Number() < n {
			return r.Do(w, call)
		}
		for range picks {
			w.Step()
			seen = append(seen, look())
		}
		return api.Answer{}
	}))
	if err != api.OK || run.Steps != 2*len(picks) || len(seen) != len(picks) {
		t.Fatalf("%+v: %+v, %v: %d moments of %d", c, run, err, len(seen), len(picks))
	}
	return seen
}

var (
	noSlots    = []int{lowest, lowest + 1, -1 << 32, -4096, -1, 0, mostSlots + 1, mostSlots + 2, 8192, 1 << 20, 1 << 32, 1<<32 + 1, highest - 1, highest}
	noLeases   = []int{lowest, lowest + 1, -1 << 32, -64, -1, 0, 65, 66, 128, 1 << 32, 1<<32 + 1, highest - 1, highest}
	noParts    = []int{lowest, lowest + 1, -1 << 32, -64, -1, 0, 65, 66, 128, 1 << 32, 1<<32 + 1, highest - 1, highest}
	noKeys     = []int{lowest, lowest + 1, -1 << 32, -2, -1, mostKey + 1, mostKey + 2, 1 << 33, 1 << 58, 1 << 59, 1 << 62, highest - 1, highest}
	noKinds    = []int{lowest, lowest + 1, -9, -1, 0, 10, 11, 99, 101, 201, 1<<32 + 1, highest - 1, highest}
	farNumbers = []int{lowest, lowest + 1, -1 << 32, -65, -2, -1, 0, 1, 2, 63, 64, 65, 1 << 32, highest - 1, highest}
	fewHalts   = []int{lowest, -1, 0, 0, 0, 0, 1, 2, 3, 5, 8, 12, 20, 33, 60, highest}
	fewUntils  = []int{1, 2, 3, 7, 15, 40, 90, 300}
)

// otherKeys: keys of so many parts that aren't this one's, and what is no key.
func otherKeys(part, parts int) []int {
	list := slices.Clone(noKeys)
	for _, key := range []int{0, least(part, parts) - 1, least(part+1, parts), mostKey} {
		if isKey(key) && !isOf(key, part, parts) {
			list = append(list, key)
		}
	}
	return list
}

// manners: which calls come.
type manners struct {
	wild  bool // calls that can't be, keys that are none or another part's
	named bool // calls that Play hasn't
}

// key: one of few of a part.
func (m *mixer) key(parts int) int {
	return least(m.below(parts), parts) + m.one([]int{0, 1, 2, 3, 4, 5, 1 << 20})
}

func (m *mixer) call(s api.Setup, how manners) api.Call {
	kind := m.one([]int{1, 1, 1, 2, 2, 2, 2, 2, 3, 3, 4, 4, 5, 5, 6, 7, 8, 9})
	if how.wild && m.below(10) == 0 {
		kind = m.one(noKinds[:8])
	}
	c := api.Call{Kind: kind, A: m.key(s.Parts), B: m.below(3), C: m.below(3)}
	if kind == 5 {
		n := m.below(s.Parts)
		for range m.below(5) {
			c.Pairs = append(c.Pairs, api.Pair{Key: least(n, s.Parts) + m.below(6), Value: m.below(3)})
		}
	}
	if how.wild && m.below(10) == 0 {
		c.A = m.one(noKeys)
		if len(c.Pairs) > 0 {
			c.Pairs[m.below(len(c.Pairs))].Key = m.one([]int{m.one(noKeys), m.key(s.Parts)})
		}
	}
	if how.named && m.below(5) == 0 {
		return m.namedCall(s, c)
	}
	return c
}

// namedCall: one that Play hasn't; a part's call c may go to another one.
func (m *mixer) namedCall(s api.Setup, c api.Call) api.Call {
	n, h := m.below(s.Parts), word(1+m.below(s.Slots), 1+2*m.below(3))
	switch m.below(9) {
	case 0:
		return slot(m.one([]int{-1, 0, 0, 1, 65}), m.below(9), m.below(9), m.below(3))
	case 1:
		return give(h)
	case 2:
		return first(n, 0, 1)
	case 3:
		return publish(n, m.one([]int{0, h, 5}), 1+m.below(9))
	case 4:
		return retire(h)
	case 5, 6:
		return tick()
	case 7:
		return ready(n)
	}
	if c.Kind < 1 || c.Kind > 5 {
		c.Kind = 2
	}
	return of(n, c)
}

// source: few pairs, of few keys, some of which are none.
func (m *mixer) source(parts int) []api.Pair {
	var list []api.Pair
	for range m.below(7) {
		x := api.Pair{Key: m.key(parts), Value: m.below(3)}
		switch m.below(9) {
		case 0:
			x.Key = m.one(noKeys)
		case 1:
			x.Value = m.one(farNumbers)
		}
		list = append(list, x)
	}
	return list
}

func (m *mixer) mixed(how manners) mixed {
	n := m.one([]int{1, 1, 1, 1, 2, 2, 3, 5, mostParts})
	x := mixed{s: api.Setup{
		Parts: n, Workers: m.one([]int{lowest, 0, 1, 2, 3, 4, 4, 4, 8, 9, highest}), Slots: m.one([]int{1, 3, 5, 7, 9, 12, 20, 30, 60, 60, 90}), Leases: 1,
		Source: m.source(n), Fails: m.one([]int{0, 0, 0, 0, 1, 2, -1, lowest}),
	}}
	for range 1 + m.below(4) {
		var calls []api.Call
		for range m.below(9) {
			calls = append(calls, m.call(x.s, how))
		}
		x.c.Work = append(x.c.Work, calls)
	}
	for range m.below(120) {
		x.c.Turns = append(x.c.Turns, m.one(farNumbers)+m.below(8))
	}
	// A worker that goes on for some time makes that others meet what it left.
	for range m.below(8) {
		k, times := m.below(8), m.below(25)
		x.c.Turns = append(x.c.Turns, slices.Repeat([]int{k}, times)...)
	}
	x.c.Until = 1200 // a write may wait for good
	if m.below(2) == 0 {
		for range m.below(7) {
			x.c.Halt = append(x.c.Halt, m.one(fewHalts))
		}
		if m.below(3) == 0 {
			x.c.Until = m.one(fewUntils)
		}
	}
	return x
}

// mixedPlays calls f with so many Plays' arguments.
func mixedPlays(count int, how manners, f func(x mixed)) {
	m := mixer(count)
	for range count {
		f(m.mixed(how))
	}
}
