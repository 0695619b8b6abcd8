package epoch_test

import (
	"math"
	"reflect"
	"slices"
	"testing"

	"skein/api"
	"skein/crew"
	"skein/epoch"
	"skein/pool"
)

// The calls of Play, by their names.
func enter() api.Call     { return api.Call{Kind: 1} }
func leave() api.Call     { return api.Call{Kind: 2} }
func fresh() api.Call     { return api.Call{Kind: 3} }
func advance() api.Call   { return api.Call{Kind: 4} }
func collect() api.Call   { return api.Call{Kind: 5} }
func stalled() api.Call   { return api.Call{Kind: 6} }
func load() api.Call      { return api.Call{Kind: 7} }
func bury(k int) api.Call { return api.Call{Kind: 8, A: k} }

// Calls that Play hasn't: Retire of a number, pool.Give of one.
const (
	kindRetire = 101
	kindGive   = 102
)

func retire(h int) api.Call { return api.Call{Kind: kindRetire, A: h} }
func give(h int) api.Call   { return api.Call{Kind: kindGive, A: h} }

func work(calls ...[]api.Call) api.Case { return api.Case{Work: calls} }

// word: a slot and a generation in one.
func word(slot, gen int) int { return slot<<40 + gen }

const (
	lowest  = math.MinInt
	highest = math.MaxInt
)

// upTo: 1 to n.
func upTo(n int) []int {
	list := make([]int, n)
	for i := range list {
		list[i] = i + 1
	}
	return list
}

// state: all that epochs and their pool tell of themselves while nobody does a call; of a slot its generation.
type state struct {
	now    int
	at     []int
	lists  [][]int // by worker
	gens   []int
	free   []int
	faults int
}

func stateOf(e *epoch.Epoch, p *pool.Pool) state {
	s := state{now: e.Now(), at: e.At(), free: p.Free(), faults: p.Faults()}
	for k := range s.at {
		s.lists = append(s.lists, e.Waiting(k))
	}
	for _, slot := range p.Slots() {
		s.gens = append(s.gens, slot.Gen)
	}
	return s
}

func (s state) same(o state) bool {
	return s.now == o.now && slices.Equal(s.at, o.at) && sameLists(s.lists, o.lists) && slices.Equal(s.gens, o.gens) && slices.Equal(s.free, o.free) && s.faults == o.faults
}

// sameLists holds lists against each other; a nil list and an empty one are the same.
func sameLists(a, b [][]int) bool { return slices.EqualFunc(a, b, slices.Equal) }

// rows: what a Play tells at the end.
func (s state) rows() [][]int {
	rows := [][]int{{s.now, len(s.free)}, s.at}
	for _, list := range s.lists {
		var slots []int
		for _, h := range list {
			slots = append(slots, h>>40)
		}
		rows = append(rows, slots)
	}
	return rows
}

// newState: that of new epochs of so many workers over a new pool.
func newState(slots, workers int) state {
	return state{now: 1, at: make([]int, workers), lists: make([][]int, workers), gens: make([]int, slots), free: upTo(slots)}
}

type waits struct{ handle, epoch int }

// model: epochs as the chapters' lines say them.
type model struct {
	now      int
	at       []int
	depth    []int
	lists    [][]waits
	gens     []int // of the pool's slots; that of 0 is idle
	top, tag int   // of its pile
	next     []int
	buried   []bool
	beyond   bool // somebody did a line behind its burial: nothing is promised then
}

func newModel(slots, workers int) *model {
	n := min(max(workers, 1), 8)
	m := &model{
		now: 1, at: make([]int, n), depth: make([]int, n), lists: make([][]waits, n), buried: make([]bool, n),
		gens: make([]int, slots+1), top: 1, next: make([]int, slots+1),
	}
	for i := 1; i < slots; i++ {
		m.next[i] = i + 1
	}
	return m
}

func (m *model) state() state {
	s := state{now: m.now, at: slices.Clone(m.at), gens: slices.Clone(m.gens[1:]), free: m.free()}
	for _, list := range m.lists {
		var handles []int
		for _, x := range list {
			handles = append(handles, x.handle)
		}
		s.lists = append(s.lists, handles)
	}
	return s
}

func (m *model) free() []int {
	var list []int
	for i := m.top; i != 0 && !slices.Contains(list, i); i = m.next[i] {
		list = append(list, i)
	}
	return list
}

// next: a call's next line; it tells the one behind it, or, if there is none, the answer.
type next func() (api.Answer, next)

// end: the call has ended with this line.
func end(a api.Answer) (api.Answer, next) { return a, nil }

// on: the call goes on with another line.
func on(n next) (api.Answer, next) { return api.Answer{}, n }

func failing(err api.Errno) next {
	return func() (api.Answer, next) { return end(api.Answer{Err: err}) }
}

// one: a line that is all of a call that goes well.
func one(f func()) next {
	return func() (api.Answer, next) {
		f()
		return end(api.Answer{Ok: true})
	}
}

// pop: with its last access comes then, of the place (0: none).
func (m *model) pop(then func(i int) (api.Answer, next)) next {
	return func() (api.Answer, next) {
		top, tag := m.top, m.tag
		if top == 0 {
			return then(0)
		}
		return on(func() (api.Answer, next) {
			below := m.next[top]
			return on(func() (api.Answer, next) {
				if m.top != top || m.tag != tag {
					return on(m.pop(then))
				}
				m.top, m.tag = below, tag+1
				return then(top)
			})
		})
	}
}

func (m *model) push(i int, then func() (api.Answer, next)) next {
	return func() (api.Answer, next) {
		top, tag := m.top, m.tag
		return on(func() (api.Answer, next) {
			m.next[i] = top
			return on(func() (api.Answer, next) {
				if m.top != top || m.tag != tag {
					return on(m.push(i, then))
				}
				m.top, m.tag = i, tag+1
				return then()
			})
		})
	}
}

func (m *model) give(h int, then func(err api.Errno) (api.Answer, next)) next {
	return func() (api.Answer, next) {
		i, gen := h>>40, h%(1<<40)
		if h < 0 || i < 1 || i >= len(m.gens) || gen%2 == 0 {
			return then(103)
		}
		if m.gens[i] != gen {
			return then(104)
		}
		m.gens[i]++
		return on(m.push(i, func() (api.Answer, next) { return then(0) }))
	}
}

func (m *model) enter(k int) next {
	if m.depth[k] > 0 {
		return one(func() { m.depth[k]++ })
	}
	return func() (api.Answer, next) {
		e := m.now
		return on(one(func() { m.at[k], m.depth[k] = e, 1 }))
	}
}

func (m *model) leave(k int) next {
	switch m.depth[k] {
	case 0:
		return failing(112)
	case 1:
		return one(func() { m.at[k], m.depth[k] = 0, 0 })
	}
	return one(func() { m.depth[k]-- })
}

func (m *model) retire(k, h int) next {
	return one(func() { m.lists[k] = append(m.lists[k], waits{h, m.now}) })
}

// fresh: the call 3 of Play.
func (m *model) fresh(k int) next {
	return m.pop(func(i int) (api.Answer, next) {
		if i == 0 {
			return end(api.Answer{Err: 102})
		}
		m.gens[i]++
		h := word(i, m.gens[i])
		return on(func() (api.Answer, next) {
			m.retire(k, h)()
			return end(api.Answer{Ok: true, N: i})
		})
	})
}

func (m *model) advance() next {
	return func() (api.Answer, next) { return on(m.advanceOn(m.now, 0)) }
}

func (m *model) advanceOn(e, j int) next {
	return func() (api.Answer, next) {
		if j == len(m.at) {
			if m.now != e {
				return end(api.Answer{})
			}
			m.now++
			return end(api.Answer{Ok: true})
		}
		if m.at[j] != 0 && m.at[j] != e {
			return end(api.Answer{})
		}
		return on(m.advanceOn(e, j+1))
	}
}

func (m *model) collect(k int) next {
	return func() (api.Answer, next) { return m.collectOn(k, m.now, 0) }
}

// collectOn belongs to the line ahead of it.
func (m *model) collectOn(k, e, went int) (api.Answer, next) {
	for i, x := range m.lists[k] {
		if x.epoch+2 > e {
			continue
		}
		return on(m.give(x.handle, func(api.Errno) (api.Answer, next) {
			if i < len(m.lists[k]) {
				m.lists[k] = slices.Delete(slices.Clone(m.lists[k]), i, i+1)
			}
			return m.collectOn(k, e, went+1)
		}))
	}
	return end(api.Answer{Ok: true, N: went})
}

func (m *model) stalled() next {
	return func() (api.Answer, next) { return on(m.stalledOn(m.now, 0, nil)) }
}

func (m *model) stalledOn(e, j int, list []int) next {
	return func() (api.Answer, next) {
		if m.at[j] != 0 && m.at[j] != e {
			list = append(list, j)
		}
		if j+1 == len(m.at) {
			return end(api.Answer{Ok: true, Ints: list})
		}
		return on(m.stalledOn(e, j+1, list))
	}
}

func (m *model) load() next {
	return func() (api.Answer, next) { return end(api.Answer{Ok: true, N: m.now}) }
}

func (m *model) bury(k, j int) next {
	if j < 0 || j >= len(m.at) || j == k {
		return failing(111)
	}
	return one(func() {
		m.at[j], m.depth[j], m.buried[j] = 0, 0, true
		m.lists[k] = append(m.lists[k], m.lists[j]...)
		m.lists[j] = nil
	})
}

// lines of a call of a worker; the calls that Play hasn't are none, if it is a Play's.
func (m *model) lines(k int, c api.Call, isPlay bool) next {
	mine := c.Kind == kindRetire || c.Kind == kindGive
	switch {
	case (c.Kind < 1 || c.Kind > 8) && (isPlay || !mine):
		return failing(110)
	case c.Kind == kindGive:
		return m.give(c.A, func(err api.Errno) (api.Answer, next) { return end(api.Answer{Ok: err == 0, Err: err}) })
	case k >= len(m.at):
		return failing(111)
	}
	switch c.Kind {
	case 1:
		return m.enter(k)
	case 2:
		return m.leave(k)
	case 3:
		return m.fresh(k)
	case 4:
		return m.advance()
	case 5:
		return m.collect(k)
	case 6:
		return m.stalled()
	case 7:
		return m.load()
	case 8:
		return m.bury(k, c.A)
	}
	return m.retire(k, c.A)
}

func (m *model) begin(isPlay bool) func(k int, c api.Call) line {
	return func(k int, c api.Call) line {
		n := m.lines(k, c, isPlay)
		return func() (api.Answer, bool) {
			if k < len(m.buried) && m.buried[k] {
				m.beyond = true
			}
			a, then := n()
			n = then
			return a, n == nil
		}
	}
}

// alone does a call of a worker with all its lines at once.
func (m *model) alone(k int, c api.Call) api.Answer {
	l := m.begin(false)(k, c)
	for {
		if a, ended := l(); ended {
			return a
		}
	}
}

// both: epochs and their pool.
type both struct {
	e *epoch.Epoch
	p *pool.Pool
}

func newBoth(t *testing.T, slots, workers int) both {
	t.Helper()
	p, err := pool.New(slots)
	if err != api.OK {
		t.Fatalf("pool.New(%d): %v", slots, err)
	}
	return both{epoch.New(p, workers), p}
}

func (b both) state() state { return stateOf(b.e, b.p) }

// Do does calls by their names.
func (b both) Do(w *crew.Worker, c api.Call) api.Answer {
	told := func(err api.Errno) api.Answer { return api.Answer{Ok: err == api.OK, Err: err} }
	none := w.Number() >= len(b.e.At())
	var a api.Answer
	switch c.Kind {
	case 1:
		a = told(b.e.Enter(w))
	case 2:
		a = told(b.e.Leave(w))
	case 3:
		if none {
			return told(b.e.Retire(w, 0))
		}
		h, err := b.p.Take(w, api.Node{}, 0)
		if err != api.OK {
			return told(err)
		}
		a = told(b.e.Retire(w, h))
		a.N = h >> 40
	case 4:
		a.Ok = b.e.Advance(w)
	case 5:
		n, err := b.e.Collect(w)
		a = told(err)
		a.N = n
	case 6:
		a.Ints = b.e.Stalled(w)
		a.Ok = !none
	case 7:
		a.N = b.e.Load(w)
		a.Ok = !none
	case 8:
		a = told(b.e.Bury(w, c.A))
	case kindRetire:
		a = told(b.e.Retire(w, c.A))
	case kindGive:
		a = told(b.p.Give(w, c.A))
	default:
		w.Step()
		a.Err = api.ErrEpochCall
	}
	if none && (c.Kind == 4 || c.Kind == 6 || c.Kind == 7) {
		a.Err = api.ErrEpochWorker // by itself the call doesn't tell it
	}
	return a
}

// by does calls of one worker, one behind the other, while all others do nothing.
func (b both) by(t *testing.T, k int, calls ...api.Call) []api.Answer {
	t.Helper()
	c := api.Case{Work: make([][]api.Call, k+1)}
	c.Work[k] = calls
	run, err := crew.Run(c, b)
	if err != api.OK || run.Cut || len(run.Answers[k]) != len(calls) {
		t.Fatalf("calls %+v of worker %d: %+v, %v", calls, k, run, err)
	}
	return run.Answers[k]
}

// wantState holds what epochs and their pool tell against what they are.
func wantState(t *testing.T, promise string, b both, want state) {
	t.Helper()
	if got := b.state(); !got.same(want) {
		t.Fatalf("%s: %+v, want %+v", promise, got, want)
	}
	for _, k := range []int{lowest, -8, -1, len(want.at), len(want.at) + 1, 7 + len(want.at), 8, 9, 1 << 32, highest} {
		if list := b.e.Waiting(k); len(list) != 0 && (k < 0 || k >= len(want.at)) {
			t.Fatalf("%s: Waiting(%d) of %d workers: %v", promise, k, len(want.at), list)
		}
	}
}

func sameAnswer(a, b api.Answer) bool {
	a.Begin, a.End, a.Own = b.Begin, b.End, b.Own
	return reflect.DeepEqual(plainRun(api.Run{Answers: [][]api.Answer{{a}}}), plainRun(api.Run{Answers: [][]api.Answer{{b}}}))
}

func wantPlay(t *testing.T, promise string, slots, workers int, c api.Case, want api.Run, rows [][]int) {
	t.Helper()
	run, got, err := epoch.Play(slots, workers, c)
	if err != api.OK || !sameRun(run, want) || !sameLists(got, rows) {
		t.Fatalf("%s: Play(%d, %d, %+v)\ngot  %+v %v %v\nwant %+v %v", promise, slots, workers, c, run, got, err, want, rows)
	}
}

// wantModel holds a Play against the model.
func wantModel(t *testing.T, promise string, slots, workers int, c api.Case) (api.Run, state) {
	t.Helper()
	m := newModel(slots, workers)
	run := modelRun(c, m.begin(true))
	if m.beyond {
		wantEnds(t, promise, slots, workers, c)
	} else {
		wantPlay(t, promise, slots, workers, c, run, m.state().rows())
	}
	return run, m.state()
}

// wantEnds is for a case of which no more is promised than that it ends, and that no call falls.
func wantEnds(t *testing.T, promise string, slots, workers int, c api.Case) {
	t.Helper()
	run, rows, err := epoch.Play(slots, workers, c)
	if err != api.OK || len(rows) != 2+min(max(workers, 1), 8) {
		t.Fatalf("%s: Play(%d, %d, %+v): %+v, %v, %v", promise, slots, workers, c, run, rows, err)
	}
	for _, a := range slices.Concat(run.Answers...) {
		if a.Err == api.ErrCrewFell {
			t.Fatalf("%s: Play(%d, %d, %+v): a call fell: %+v", promise, slots, workers, c, run)
		}
	}
}

// wantNamed holds calls by their names, of a run over new epochs, against the model.
func wantNamed(t *testing.T, promise string, slots, workers int, c api.Case) (api.Run, both) {
	t.Helper()
	b, m := newBoth(t, slots, workers), newModel(slots, workers)
	got, err := crew.Run(c, b)
	want := modelRun(c, m.begin(false))
	if err != api.OK || !m.beyond && (!sameRun(got, want) || !b.state().same(m.state())) {
		t.Fatalf("%s: %d slots, %d workers, %+v\ngot  %+v %+v %v\nwant %+v %+v", promise, slots, workers, c, got, b.state(), err, want, m.state())
	}
	return got, b
}

var (
	noSizes    = []int{lowest, lowest + 1, -1 << 32, -4096, -1, 0, 4097, 4098, 8192, 1 << 20, 1 << 32, 1<<32 + 1, highest - 1, highest}
	farNumbers = []int{lowest, lowest + 1, -1 << 32, -65, -2, -1, 0, 1, 2, 63, 64, 65, 1 << 32, highest - 1, highest}
	fewHalts   = []int{lowest, -1, 0, 0, 0, 1, 2, 3, 4, 5, 8, 12, 20, highest}
	fewUntils  = []int{0, 0, 0, 0, 1, 2, 3, 7, 15, 19999, 20000}
	// workersOf: numbers of workers, and how many there are then.
	workersOf = map[int]int{
		lowest: 1, lowest + 1: 1, -1 << 32: 1, -8: 1, -1: 1, 0: 1, 1: 1, 2: 2, 3: 3, 4: 4, 5: 5, 6: 6, 7: 7,
		8: 8, 9: 8, 10: 8, 16: 8, 1 << 32: 8, 1<<32 + 1: 8, 1 << 40: 8, highest - 1: 8, highest: 8,
	}
)

// noHandles: what is no handle of a slot of a pool of n.
func noHandles(n int) []int {
	return []int{
		0, 1, 5, word(0, 1), word(n+1, 1), word(n+1, 3), word(8192, 1), word(1, 0), word(1, 2), word(n, 2), word(n+1, 0),
		1<<60 + word(1, 1), 1<<62 + word(1, 1), 1 << 60, -1, -word(1, 1), lowest + word(1, 1), lowest, lowest + 1, highest - 1, highest,
	}
}

// mixed: a Play's arguments.
type mixed struct {
	slots, workers int
	c              api.Case
}

// manners: which calls come.
type manners struct {
	wild   bool // calls that can't be, workers that are none of it
	buries bool
	named  bool // calls that Play hasn't
}

func (m *mixer) call(slots, workers int, how manners) api.Call {
	c := api.Call{Kind: m.one([]int{1, 1, 2, 2, 2, 3, 3, 3, 3, 3, 4, 4, 4, 4, 4, 4, 4, 5, 5, 5, 5, 6, 7}), A: m.below(9), B: m.below(9), C: m.below(9)}
	if how.buries && m.below(12) == 0 {
		c = bury(m.below(workers + 1))
	}
	if how.named && m.below(5) == 0 {
		h := word(1+m.below(slots), 1+2*m.below(2))
		c = m.call1([]api.Call{retire(h), retire(h), give(h), retire(m.one(noHandles(slots)))})
	}
	if how.wild && m.below(12) == 0 {
		c = m.call1([]api.Call{{Kind: 0}, {Kind: -1}, {Kind: 9}, {Kind: lowest}, {Kind: highest}, bury(-1), bury(workers), bury(lowest), bury(highest)})
	}
	return c
}

func (m *mixer) call1(list []api.Call) api.Call { return list[m.below(len(list))] }

func (m *mixer) mixed(how manners) mixed {
	x := mixed{slots: m.one([]int{1, 2, 2, 3, 3, 4, 6}), workers: 1 + m.below(4)}
	n := x.workers
	if how.wild {
		x.workers = m.one([]int{-1, 0, 1, 2, 2, 3, 3, 4, 8, 9})
		n = 1 + m.below(5)
	}
	for range n {
		var calls []api.Call
		for range m.below(20) {
			calls = append(calls, m.call(x.slots, n, how))
		}
		x.c.Work = append(x.c.Work, calls)
	}
	for range m.below(90) {
		x.c.Turns = append(x.c.Turns, m.one(farNumbers)+m.below(8))
	}
	// A worker that goes on for some time makes that others meet what it left.
	for range m.below(6) {
		k, times := m.below(8), m.below(12)
		x.c.Turns = append(x.c.Turns, slices.Repeat([]int{k}, times)...)
	}
	if how.buries || m.below(2) == 0 {
		for range m.below(7) {
			x.c.Halt = append(x.c.Halt, m.one(fewHalts))
		}
		x.c.Until = m.one(fewUntils)
	}
	return x
}

// mixedPlays calls f with so many Plays' arguments.
func mixedPlays(count int, how manners, f func(x mixed)) {
	m := mixer(count)
	for range count {
		f(m.mixed(how))
	}
}
