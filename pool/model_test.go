package pool_test

import (
	"math"
	"slices"
	"testing"

	"skein/api"
	"skein/crew"
	"skein/pool"
)

// The calls of Play, by their names.
func take(a, b, link int) api.Call      { return api.Call{Kind: 1, A: a, B: b, C: link} }
func give(h int) api.Call               { return api.Call{Kind: 2, A: h} }
func read(h int) api.Call               { return api.Call{Kind: 3, A: h} }
func mark(h int) api.Call               { return api.Call{Kind: 4, A: h} }
func casMark(h, old, v int) api.Call    { return api.Call{Kind: 5, A: h, B: old, C: v} }
func link(h int) api.Call               { return api.Call{Kind: 6, A: h} }
func swapLink(h, v int) api.Call        { return api.Call{Kind: 7, A: h, B: v} }
func gens() api.Call                    { return api.Call{Kind: 8} }
func look() api.Call                    { return api.Call{Kind: 9} }
func back(slot, gen int) api.Call       { return api.Call{Kind: 10, A: slot, B: gen} }
func work(calls ...[]api.Call) api.Case { return api.Case{Work: calls} }

// word: a slot and a generation in one.
func word(slot, gen int) int { return slot<<40 + gen }

const (
	lowest  = math.MinInt
	highest = math.MaxInt
	poison  = -7777777
)

// used: a slot in use, as a call 1 of Play took it.
func used(gen, a, b, link int) api.Slot {
	return api.Slot{Gen: gen, Node: api.Node{A: a, B: b}, Link: link}
}

// given: a slot that was given back.
func given(gen int) api.Slot {
	return api.Slot{Gen: gen, Node: api.Node{A: poison, B: poison, C: poison, D: poison}, Mark: poison, Link: poison}
}

// upTo: 1 to n.
func upTo(n int) []int {
	list := make([]int, n)
	for i := range list {
		list[i] = i + 1
	}
	return list
}

// state: all that a pool tells of itself while nobody does a call.
type state struct {
	slots  []api.Slot
	free   []int
	faults int
}

func (s state) same(o state) bool {
	return slices.Equal(s.slots, o.slots) && slices.Equal(s.free, o.free) && s.faults == o.faults
}

func stateOf(p *pool.Pool) state { return state{p.Slots(), p.Free(), p.Faults()} }

// model: a pool as the chapters' lines say it.
type model struct {
	slots    []api.Slot // by number; that of 0 is idle
	top, tag int        // of the pile
	next     []int      // by place; that of 0 is idle
	faults   int
	taken    [8][]int // by worker, of each call that ended
}

func newModel(n int) *model {
	m := &model{slots: make([]api.Slot, n+1), top: 1, next: make([]int, n+1)}
	for i := 1; i < n; i++ {
		m.next[i] = i + 1
	}
	return m
}

func (m *model) state() state { return state{m.slots[1:], m.free(), m.faults} }

func (m *model) free() []int {
	var list []int
	for i := m.top; i != 0 && !slices.Contains(list, i); i = m.next[i] {
		list = append(list, i)
	}
	return list
}

// one: a call of one line.
func one(f func() api.Answer) line {
	return func() (api.Answer, bool) { return f(), true }
}

func refused(err api.Errno) line { return one(func() api.Answer { return api.Answer{Err: err} }) }

func (m *model) pop(then func(i int) api.Answer) line {
	at, top, tag, below := 1, 0, 0, 0
	return func() (api.Answer, bool) {
		switch at {
		case 1:
			top, tag, at = m.top, m.tag, 2
			if top == 0 {
				return api.Answer{Err: 102}, true
			}
		case 2:
			below, at = m.next[top], 3
		case 3:
			at = 1
			if m.top == top && m.tag == tag {
				m.top, m.tag = below, tag+1
				return then(top), true
			}
		}
		return api.Answer{}, false
	}
}

// pushed: a first line, and if that goes well a Push's behind it.
func (m *model) pushed(i int, first func() api.Errno) line {
	at, top, tag := 0, 0, 0
	return func() (api.Answer, bool) {
		switch at {
		case 0:
			at = 1
			if err := first(); err != 0 {
				return api.Answer{Err: err}, true
			}
		case 1:
			top, tag, at = m.top, m.tag, 2
		case 2:
			m.next[i], at = top, 3
		case 3:
			at = 1
			if m.top == top && m.tag == tag {
				m.top, m.tag = i, tag+1
				return api.Answer{}, true
			}
		}
		return api.Answer{}, false
	}
}

func (m *model) look() line {
	began, top, tag, i, list := false, 0, 0, 0, []int(nil)
	return func() (api.Answer, bool) {
		switch {
		case !began:
			began, top, tag, i, list = true, m.top, m.tag, m.top, nil
		case i != 0 && !slices.Contains(list, i):
			list = append(list, i)
			i = m.next[i]
		case m.top == top && m.tag == tag:
			return api.Answer{Ints: list}, true
		default:
			began = false
		}
		return api.Answer{}, false
	}
}

func (m *model) gens() line {
	i, list := 1, []int(nil)
	return func() (api.Answer, bool) {
		list = append(list, m.slots[i].Gen, m.slots[i].Mark)
		i++
		return api.Answer{Ints: list}, i == len(m.slots)
	}
}

func (m *model) isHandle(h int) bool {
	return h >= 0 && h>>40 >= 1 && h>>40 < len(m.slots) && h%2 == 1
}

// met: a call of a line that wants the handle's generation.
func (m *model) met(h int, f func(s *api.Slot) api.Answer) line {
	if !m.isHandle(h) {
		return refused(103)
	}
	return one(func() api.Answer {
		s := &m.slots[h>>40]
		if s.Gen != h%(1<<40) {
			m.faults++
			return api.Answer{Err: 104}
		}
		return f(s)
	})
}

func (m *model) give(h int) line {
	if !m.isHandle(h) {
		return refused(103)
	}
	return m.pushed(h>>40, func() api.Errno {
		s := &m.slots[h>>40]
		if s.Gen != h%(1<<40) {
			return 104
		}
		*s = given(s.Gen + 1)
		return 0
	})
}

func (m *model) back(i, gen int) line {
	if i < 1 || i >= len(m.slots) || gen < 0 || gen%2 == 1 {
		return refused(103)
	}
	return m.pushed(i, func() api.Errno {
		if m.slots[i].Gen != gen {
			return 104
		}
		m.slots[i].Gen += 2
		return 0
	})
}

// named: the handle that a worker's call names by a number.
func named(taken []int, t int) int {
	for k, h := range taken {
		if t == -(k + 1) {
			return h
		}
	}
	return max(t, 0)
}

// lines of a call; h is the handle that its A names.
func (m *model) lines(c api.Call, h int) line {
	switch c.Kind {
	case 1:
		return m.pop(func(i int) api.Answer {
			gen := m.slots[i].Gen + 1
			m.slots[i] = used(gen, c.A, c.B, c.C)
			return api.Answer{N: word(i, gen)}
		})
	case 2:
		return m.give(h)
	case 3:
		return m.met(h, func(s *api.Slot) api.Answer {
			return api.Answer{Ints: []int{s.Node.A, s.Node.B, s.Node.C, s.Node.D}}
		})
	case 4:
		return m.met(h, func(s *api.Slot) api.Answer { return api.Answer{N: s.Mark} })
	case 5:
		return m.met(h, func(s *api.Slot) api.Answer {
			if s.Mark != c.B {
				return api.Answer{}
			}
			s.Mark = c.C
			return api.Answer{Ok: true}
		})
	case 6:
		return m.met(h, func(s *api.Slot) api.Answer { return api.Answer{N: s.Link} })
	case 7:
		return m.met(h, func(s *api.Slot) api.Answer {
			was := s.Link
			s.Link = c.B
			return api.Answer{N: was}
		})
	case 8:
		return m.gens()
	case 9:
		return m.look()
	case 10:
		return m.back(c.A, c.B)
	}
	return refused(100)
}

func (m *model) begin(worker int, c api.Call) line {
	l := m.lines(c, named(m.taken[worker], c.A))
	return func() (api.Answer, bool) {
		a, ended := l()
		if ended {
			m.taken[worker] = append(m.taken[worker], tookBy(c, a))
		}
		return a, ended
	}
}

// tookBy: the handle that a call that ended took; 0: none.
func tookBy(c api.Call, a api.Answer) int {
	if c.Kind == 1 && a.Err == 0 {
		return a.N
	}
	return 0
}

// alone does a call with all its lines at once.
func (m *model) alone(c api.Call) api.Answer {
	l := m.begin(0, c)
	for {
		if a, ended := l(); ended {
			return a
		}
	}
}

func newPool(t *testing.T, n int) *pool.Pool {
	t.Helper()
	p, err := pool.New(n)
	if err != api.OK || p == nil {
		t.Fatalf("P10.1: New(%d): %v, %v", n, p, err)
	}
	return p
}

// byName does calls by their names, and keeps what they took.
func byName(p *pool.Pool) does {
	var taken [8][]int
	return func(w *crew.Worker, c api.Call) api.Answer {
		mine := &taken[w.Number()]
		a := doByName(p, w, c, named(*mine, c.A))
		*mine = append(*mine, tookBy(c, a))
		return a
	}
}

func doByName(p *pool.Pool, w *crew.Worker, c api.Call, h int) api.Answer {
	var a api.Answer
	switch c.Kind {
	case 1:
		a.N, a.Err = p.Take(w, api.Node{A: c.A, B: c.B}, c.C)
	case 2:
		a.Err = p.Give(w, h)
	case 3:
		var x api.Node
		if x, a.Err = p.Read(w, h); a.Err == api.OK || x != (api.Node{}) {
			a.Ints = []int{x.A, x.B, x.C, x.D}
		}
	case 4:
		a.N, a.Err = p.Mark(w, h)
	case 5:
		a.Ok, a.Err = p.CasMark(w, h, c.B, c.C)
	case 6:
		a.N, a.Err = p.Link(w, h)
	case 7:
		a.N, a.Err = p.SwapLink(w, h, c.B)
	case 8:
		generations, marks := p.Gens(w)
		for i, gen := range generations {
			a.Ints = append(a.Ints, gen, marks[i])
		}
	case 9:
		a.Ints = p.Look(w)
	case 10:
		a.Err = p.Back(w, c.A, c.B)
	default:
		a.Err = api.ErrPoolCall
	}
	return a
}

// wantPool holds what a pool tells of itself against what it is.
func wantPool(t *testing.T, promise string, p *pool.Pool, want state) {
	t.Helper()
	if got := stateOf(p); !got.same(want) {
		t.Fatalf("%s: %+v, want %+v", promise, got, want)
	}
	if got := p.Look(nil); !slices.Equal(got, want.free) {
		t.Fatalf("%s: Look %v, want %v", promise, got, want.free)
	}
	generations, marks := p.Gens(nil)
	if len(generations) != len(want.slots) || len(marks) != len(want.slots) {
		t.Fatalf("%s: Gens %v, %v", promise, generations, marks)
	}
	for i, s := range want.slots {
		if generations[i] != s.Gen || marks[i] != s.Mark {
			t.Fatalf("%s: Gens of slot %d: %d, %d, want %+v", promise, i+1, generations[i], marks[i], s)
		}
	}
}

func sameAnswer(a, b api.Answer) bool {
	return a.Ok == b.Ok && a.N == b.N && a.M == b.M && a.Err == b.Err && slices.Equal(a.Ints, b.Ints) && len(a.Pairs) == 0 && len(b.Pairs) == 0
}

func play(n int, c api.Case) (api.Run, state, api.Errno) {
	run, slots, free, faults, err := pool.Play(n, c)
	return run, state{slots, free, faults}, err
}

func wantPlay(t *testing.T, promise string, n int, c api.Case, want api.Run, left state) {
	t.Helper()
	run, got, err := play(n, c)
	if err != api.OK || !sameRun(run, want) || !got.same(left) {
		t.Fatalf("%s: Play(%d, %+v)\ngot  %+v %+v %v\nwant %+v %+v", promise, n, c, run, got, err, want, left)
	}
}

// wantModel holds a Play against the model.
func wantModel(t *testing.T, promise string, n int, c api.Case) (api.Run, state) {
	t.Helper()
	m := newModel(n)
	run := modelRun(c, m.begin)
	wantPlay(t, promise, n, c, run, m.state())
	return run, m.state()
}

var (
	noSizes    = []int{lowest, lowest + 1, -1 << 32, -4096, -1, 0, 4097, 4098, 8192, 1 << 20, 1 << 32, 1<<32 + 1, highest - 1, highest}
	farNumbers = []int{lowest, lowest + 1, -1 << 32, -65, -2, -1, 0, 1, 2, 63, 64, 65, 1 << 32, highest - 1, highest}
	fewHalts   = []int{lowest, -1, 0, 0, 0, 1, 2, 3, 4, 5, 8, 12, highest}
	fewUntils  = []int{0, 0, 0, 0, 1, 2, 3, 7, 15, 19999, 20000}
)

// noHandles: what is no handle of a slot of a pool of n.
func noHandles(n int) []int {
	return []int{
		0, 1, 5, word(0, 1), word(0, 1<<40-1), word(n+1, 1), word(n+1, 3), word(n+2, 1), word(8192, 1), word(1<<20-1, 1<<40-1),
		word(1, 0), word(1, 2), word(n, 0), word(n, 2), word(n, 1<<40-2), word(n+1, 0), word(0, 2),
		1<<60 + word(1, 1), 1<<61 + word(1, 1), 1<<62 + word(1, 1), 1 << 60, 1<<60 + 1,
		-word(1, 1), lowest + word(1, 1), lowest, lowest + 1, highest - 1, highest,
	}
}

// mixed: a Play's arguments.
type mixed struct {
	n int
	c api.Case
}

// handle: mostly one that a call ahead of this one took, or one that somebody may have.
func (m *mixer) handle(n, ahead int) int {
	if ahead > 0 && m.below(3) > 0 {
		return -1 - m.below(ahead)
	}
	return word(1+m.below(n), 1+2*m.below(3))
}

// call: over so many slots, behind so many calls; also one that can't be, that names what is no handle, or that may spoil the pool, if wild.
func (m *mixer) call(n, ahead int, wild bool) api.Call {
	c := api.Call{Kind: m.one([]int{1, 1, 1, 1, 2, 2, 2, 2, 3, 3, 4, 5, 5, 6, 7, 7, 8, 9}), A: m.handle(n, ahead), B: m.below(3), C: m.below(3)}
	if c.Kind == 1 || m.below(5) == 0 {
		c.B, c.C = m.one(farNumbers), m.one(farNumbers)
	}
	if c.Kind == 1 {
		c.A = m.one(farNumbers)
	}
	if !wild {
		return c
	}
	switch m.below(10) {
	case 0:
		c.Kind = m.one([]int{lowest, -1, 0, 11, 12, highest})
	case 1:
		if c.Kind > 1 {
			c.A = m.one(append(noHandles(n), -1-ahead, -2-ahead, -64, -65))
		}
	case 2:
		c.Kind, c.A, c.B = 10, m.below(n+2), m.one([]int{0, 0, 2, 2, 4, 6, 1, -2, highest - 1})
	}
	return c
}

func (m *mixer) mixed(wild bool) mixed {
	x := mixed{n: m.one([]int{1, 1, 2, 2, 3, 3, 4, 6})}
	for range 1 + m.below(5) {
		var calls []api.Call
		for i := range m.below(11) {
			calls = append(calls, m.call(x.n, i, wild))
		}
		x.c.Work = append(x.c.Work, calls)
	}
	for range m.below(70) {
		x.c.Turns = append(x.c.Turns, m.one(farNumbers)+m.below(8))
	}
	if m.below(2) == 0 {
		for range m.below(7) {
			x.c.Halt = append(x.c.Halt, m.one(fewHalts))
		}
		x.c.Until = m.one(fewUntils)
	}
	return x
}

// mixedPlays calls f with so many Plays' arguments.
func mixedPlays(count int, wild bool, f func(x mixed)) {
	m := mixer(count)
	for range count {
		f(m.mixed(wild))
	}
}
