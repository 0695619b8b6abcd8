package hazard_test

import (
	"math"
	"reflect"
	"slices"
	"testing"

	"skein/api"
	"skein/crew"
	"skein/hazard"
	"skein/pool"
)

// The calls of Play, by their names.
func protect(i, root int) api.Call      { return api.Call{Kind: 1, A: i, B: root} }
func read(i int) api.Call               { return api.Call{Kind: 2, A: i} }
func clearOf(i int) api.Call            { return api.Call{Kind: 3, A: i} }
func swap(root, n int) api.Call         { return api.Call{Kind: 4, A: root, B: n, C: -n} }
func put(i, root, n int) api.Call       { return api.Call{Kind: 5, A: i, B: root, C: n} }
func drop(root int) api.Call            { return api.Call{Kind: 6, A: root} }
func scan() api.Call                    { return api.Call{Kind: 7} }
func work(calls ...[]api.Call) api.Case { return api.Case{Work: calls} }

// Calls that Play hasn't: pool.Give of a number, pool.Take; and, with this beside the Kind, those of a second rack.
const (
	kindGive = 101
	kindTake = 102
	ofSecond = 10
)

func give(h int) api.Call { return api.Call{Kind: kindGive, A: h} }
func take(n int) api.Call { return api.Call{Kind: kindTake, A: n} }

func second(c api.Call) api.Call {
	c.Kind += ofSecond
	return c
}

// word: a slot and a generation in one.
func word(slot, gen int) int { return slot<<40 + gen }

// first: the handle of a slot that is taken for the first time.
func first(slot int) int { return word(slot, 1) }

const (
	lowest  = math.MinInt
	highest = math.MaxInt
	poison  = -7777777
)

// upTo: 1 to n.
func upTo(n int) []int {
	list := make([]int, n)
	for i := range list {
		list[i] = i + 1
	}
	return list
}

// told: what a rack tells of itself.
type told struct {
	roots          []int
	hazards, waits [][]int // by worker
}

// state: all that pools and racks tell of themselves while nobody does a call.
type state struct {
	slots  [][]api.Slot
	free   [][]int
	faults []int
	racks  []told
}

func (s state) same(o state) bool {
	return slices.EqualFunc(s.slots, o.slots, slices.Equal) && sameLists(s.free, o.free) && slices.Equal(s.faults, o.faults) && slices.EqualFunc(s.racks, o.racks, told.same)
}

func (s told) same(o told) bool {
	return slices.Equal(s.roots, o.roots) && sameLists(s.hazards, o.hazards) && sameLists(s.waits, o.waits)
}

// sameLists holds lists against each other; a nil list and an empty one are the same.
func sameLists(a, b [][]int) bool { return slices.EqualFunc(a, b, slices.Equal) }

// rows: what a Play tells at the end.
func (s state) rows() [][]int {
	r := s.racks[0]
	return slices.Concat([][]int{{len(s.free[0]), s.faults[0]}, r.roots}, r.hazards, r.waits)
}

// pooled: a pool as the chapters' lines say it.
type pooled struct {
	slots    []api.Slot // that of 0 is idle
	top, tag int
	next     []int
	faults   int
}

func newPooled(n int) *pooled {
	p := &pooled{slots: make([]api.Slot, n+1), top: 1, next: make([]int, n+1)}
	for i := 1; i < n; i++ {
		p.next[i] = i + 1
	}
	return p
}

func (p *pooled) free() []int {
	var list []int
	for i := p.top; i != 0 && !slices.Contains(list, i); i = p.next[i] {
		list = append(list, i)
	}
	return list
}

// next: a call's next line; it tells the one behind it, or, if there is none, the answer.
type next func() (api.Answer, next)

// end: the call has ended with this line.
func end(a api.Answer) (api.Answer, next) { return a, nil }

// on: the call goes on with another line.
func on(n next) (api.Answer, next) { return api.Answer{}, n }

func failed(err api.Errno) api.Answer { return api.Answer{Err: err} }

func failing(err api.Errno) next {
	return func() (api.Answer, next) { return end(failed(err)) }
}

// take: with its last access comes then.
func (p *pooled) take(x api.Node, then func(h int, err api.Errno) (api.Answer, next)) next {
	return func() (api.Answer, next) {
		top, tag := p.top, p.tag
		if top == 0 {
			return then(0, 102)
		}
		return on(func() (api.Answer, next) {
			below := p.next[top]
			return on(func() (api.Answer, next) {
				if p.top != top || p.tag != tag {
					return on(p.take(x, then))
				}
				p.top, p.tag = below, tag+1
				p.slots[top] = api.Slot{Gen: p.slots[top].Gen + 1, Node: x}
				return then(word(top, p.slots[top].Gen), 0)
			})
		})
	}
}

func (p *pooled) push(i int, then func() (api.Answer, next)) next {
	return func() (api.Answer, next) {
		top, tag := p.top, p.tag
		return on(func() (api.Answer, next) {
			p.next[i] = top
			return on(func() (api.Answer, next) {
				if p.top != top || p.tag != tag {
					return on(p.push(i, then))
				}
				p.top, p.tag = i, tag+1
				return then()
			})
		})
	}
}

// slot tells the slot of a handle; 0: it is none.
func (p *pooled) slot(h int) int {
	if i := h >> 40; h >= 0 && h%2 == 1 && i >= 1 && i < len(p.slots) {
		return i
	}
	return 0
}

func (p *pooled) give(h int, then func(err api.Errno) (api.Answer, next)) next {
	return func() (api.Answer, next) {
		i := p.slot(h)
		if i == 0 {
			return then(103)
		}
		if p.slots[i].Gen != h%(1<<40) {
			return then(104)
		}
		p.slots[i] = given(p.slots[i].Gen + 1)
		return on(p.push(i, func() (api.Answer, next) { return then(0) }))
	}
}

// given: a slot that was given back.
func given(gen int) api.Slot {
	return api.Slot{Gen: gen, Node: api.Node{A: poison, B: poison, C: poison, D: poison}, Mark: poison, Link: poison}
}

func (p *pooled) read(h int) next {
	return func() (api.Answer, next) {
		i := p.slot(h)
		if i == 0 {
			return end(failed(103))
		}
		if p.slots[i].Gen != h%(1<<40) {
			p.faults++
			return end(failed(104))
		}
		x := p.slots[i].Node
		return end(api.Answer{Ints: []int{x.A, x.B, x.C, x.D}})
	}
}

// rack: a rack as the chapter's lines say it.
type rack struct {
	pool           *pooled
	roots          []int
	hazards, waits [][]int
}

func newRack(p *pooled, workers, roots int) *rack {
	r := &rack{pool: p, roots: make([]int, roots), waits: make([][]int, workers)}
	for range workers {
		r.hazards = append(r.hazards, make([]int, 2))
	}
	return r
}

// refuses tells what a call names that isn't there; 0: nothing. What it does not name is 0 here, which is there always.
func (r *rack) refuses(k int, c api.Call) api.Errno {
	i, root := 0, 0
	switch c.Kind {
	case 1:
		i, root = c.A, c.B
	case 2, 3:
		i = c.A
	case 4, 6:
		root = c.A
	case 5:
		i, root = c.A, c.B
	}
	switch {
	case k >= len(r.waits):
		return 242
	case i != 0 && i != 1:
		return 243
	case root < 0 || root >= len(r.roots):
		return 244
	}
	return 0
}

func (r *rack) protect(k, i, root int) next {
	return func() (api.Answer, next) {
		h := r.roots[root]
		if h == 0 {
			return end(failed(245))
		}
		return on(r.protectOn(k, i, root, h))
	}
}

func (r *rack) protectOn(k, i, root, h int) next {
	return func() (api.Answer, next) {
		r.hazards[k][i] = h
		return on(func() (api.Answer, next) {
			now := r.roots[root]
			if now == h {
				return end(api.Answer{N: h})
			}
			if now != 0 {
				return on(r.protectOn(k, i, root, now))
			}
			return on(func() (api.Answer, next) {
				r.hazards[k][i] = 0
				return end(failed(245))
			})
		})
	}
}

func (r *rack) read(k, i int) next {
	if h := r.hazards[k][i]; h != 0 {
		return r.pool.read(h)
	}
	return failing(245)
}

func (r *rack) clearOf(k, i int) next {
	return func() (api.Answer, next) {
		r.hazards[k][i] = 0
		return end(api.Answer{})
	}
}

func (r *rack) tookOff(k, h int) {
	if h != 0 {
		r.waits[k] = append(r.waits[k], h)
	}
}

func (r *rack) swap(k, root int, x api.Node) next {
	return r.pool.take(x, func(h int, err api.Errno) (api.Answer, next) {
		if err != 0 {
			return end(failed(err))
		}
		return on(func() (api.Answer, next) {
			r.tookOff(k, r.roots[root])
			r.roots[root] = h
			return end(api.Answer{N: h})
		})
	})
}

func (r *rack) put(k, i, root int, x api.Node) next {
	return r.pool.take(x, func(h int, err api.Errno) (api.Answer, next) {
		if err != 0 {
			return end(failed(err))
		}
		return on(func() (api.Answer, next) {
			if r.roots[root] != r.hazards[k][i] {
				return on(r.pool.give(h, func(err api.Errno) (api.Answer, next) { return end(failed(err)) }))
			}
			r.tookOff(k, r.roots[root])
			r.roots[root] = h
			return end(api.Answer{Ok: true, N: h})
		})
	})
}

func (r *rack) drop(k, root int) next {
	return func() (api.Answer, next) {
		h := r.roots[root]
		if h == 0 {
			return end(failed(245))
		}
		r.tookOff(k, h)
		r.roots[root] = 0
		return end(api.Answer{N: h})
	}
}

func (r *rack) scan(k, at int, met []int) next {
	return func() (api.Answer, next) {
		met = append(met, r.hazards[at/2][at%2])
		if at+1 < 2*len(r.hazards) {
			return on(r.scan(k, at+1, met))
		}
		return r.giveBack(k, met, 0)
	}
}

// giveBack belongs to the line ahead of it.
func (r *rack) giveBack(k int, met []int, went int) (api.Answer, next) {
	for i, h := range r.waits[k] {
		if slices.Contains(met, h) {
			continue
		}
		r.waits[k] = slices.Concat(r.waits[k][:i], r.waits[k][i+1:])
		return on(r.pool.give(h, func(api.Errno) (api.Answer, next) { return r.giveBack(k, met, went+1) }))
	}
	return end(api.Answer{N: went})
}

func (r *rack) lines(k int, c api.Call) next {
	if c.Kind < 1 || c.Kind > 7 {
		return failing(240)
	}
	if err := r.refuses(k, c); err != 0 {
		return failing(err)
	}
	switch c.Kind {
	case 1:
		return r.protect(k, c.A, c.B)
	case 2:
		return r.read(k, c.A)
	case 3:
		return r.clearOf(k, c.A)
	case 4:
		return r.swap(k, c.A, api.Node{A: c.B, B: c.C})
	case 5:
		return r.put(k, c.A, c.B, api.Node{A: c.C})
	case 6:
		return r.drop(k, c.A)
	}
	return r.scan(k, 0, nil)
}

// shape: which racks there are, over which pools.
type shape struct {
	slots, workers, roots int
	racks, pools          int // 0: 1; a rack whose pool isn't there has the last one
}

// model: pools, and racks over them.
type model struct {
	pools []*pooled
	racks []*rack
}

func newModel(s shape) *model {
	m := &model{}
	for range max(s.pools, 1) {
		m.pools = append(m.pools, newPooled(s.slots))
	}
	for j := range max(s.racks, 1) {
		m.racks = append(m.racks, newRack(m.pools[min(j, len(m.pools)-1)], s.workers, s.roots))
	}
	return m
}

func (m *model) state() state {
	var s state
	for _, p := range m.pools {
		s.slots = append(s.slots, slices.Clone(p.slots[1:]))
		s.free = append(s.free, p.free())
		s.faults = append(s.faults, p.faults)
	}
	for _, r := range m.racks {
		t := told{roots: slices.Clone(r.roots), waits: slices.Clone(r.waits)}
		for _, mine := range r.hazards {
			t.hazards = append(t.hazards, slices.Clone(mine))
		}
		s.racks = append(s.racks, t)
	}
	return s
}

// lines of a call; those that Play hasn't are none, if it is a Play's.
func (m *model) lines(k int, c api.Call, isPlay bool) next {
	switch {
	case isPlay:
		return m.racks[0].lines(k, c)
	case c.Kind == kindGive:
		return m.pools[0].give(c.A, func(err api.Errno) (api.Answer, next) { return end(failed(err)) })
	case c.Kind == kindTake:
		return m.pools[0].take(api.Node{A: c.A}, func(h int, err api.Errno) (api.Answer, next) { return end(api.Answer{N: h, Err: err}) })
	case c.Kind > ofSecond && len(m.racks) > 1:
		c.Kind -= ofSecond
		return m.racks[1].lines(k, c)
	}
	return m.racks[0].lines(k, c)
}

func (m *model) begin(isPlay bool) func(k int, c api.Call) line {
	return func(k int, c api.Call) line {
		n := m.lines(k, c, isPlay)
		return func() (api.Answer, bool) {
			a, then := n()
			n = then
			return a, n == nil
		}
	}
}

// alone does a call of worker 0 with all its lines at once.
func (m *model) alone(c api.Call) api.Answer {
	l := m.begin(false)(0, c)
	for {
		if a, ended := l(); ended {
			return a
		}
	}
}

// real: pools, and racks over them.
type real struct {
	pools []*pool.Pool
	racks []*hazard.Rack
}

func newReal(t *testing.T, s shape) real {
	t.Helper()
	var b real
	for range max(s.pools, 1) {
		p, err := pool.New(s.slots)
		if err != api.OK {
			t.Fatalf("pool.New(%d): %v", s.slots, err)
		}
		b.pools = append(b.pools, p)
	}
	for j := range max(s.racks, 1) {
		r, err := hazard.New(b.pools[min(j, len(b.pools)-1)], s.workers, s.roots)
		if err != api.OK || r == nil {
			t.Fatalf("P24.1: New(%d, %d): %v, %v", s.workers, s.roots, r, err)
		}
		b.racks = append(b.racks, r)
	}
	return b
}

func (b real) state() state {
	var s state
	for _, p := range b.pools {
		s.slots = append(s.slots, p.Slots())
		s.free = append(s.free, p.Free())
		s.faults = append(s.faults, p.Faults())
	}
	for _, r := range b.racks {
		t := told{roots: r.Roots()}
		for k := 0; r.Hazards(k) != nil; k++ {
			t.hazards = append(t.hazards, r.Hazards(k))
			t.waits = append(t.waits, r.Waiting(k))
		}
		s.racks = append(s.racks, t)
	}
	return s
}

// Do does calls by their names.
func (b real) Do(w *crew.Worker, c api.Call) api.Answer {
	switch {
	case c.Kind == kindGive:
		return failed(b.pools[0].Give(w, c.A))
	case c.Kind == kindTake:
		h, err := b.pools[0].Take(w, api.Node{A: c.A}, 0)
		return api.Answer{N: h, Err: err}
	case c.Kind > ofSecond && len(b.racks) > 1:
		c.Kind -= ofSecond
		return doByName(b.racks[1], w, c)
	}
	return doByName(b.racks[0], w, c)
}

func doByName(r *hazard.Rack, w *crew.Worker, c api.Call) api.Answer {
	var a api.Answer
	switch c.Kind {
	case 1:
		a.N, a.Err = r.Protect(w, c.A, c.B)
	case 2:
		var x api.Node
		if x, a.Err = r.Read(w, c.A); a.Err == api.OK || x != (api.Node{}) {
			a.Ints = []int{x.A, x.B, x.C, x.D}
		}
	case 3:
		a.Err = r.Clear(w, c.A)
	case 4:
		a.N, a.Err = r.Swap(w, c.A, api.Node{A: c.B, B: c.C})
	case 5:
		a.N, a.Ok, a.Err = r.Put(w, c.A, c.B, api.Node{A: c.C})
	case 6:
		a.N, a.Err = r.Drop(w, c.A)
	case 7:
		a.N, a.Err = r.Scan(w)
	default:
		w.Step()
		a.Err = api.ErrHazardCall
	}
	return a
}

func sameAnswer(a, b api.Answer) bool {
	a.Begin, a.End, a.Own = b.Begin, b.End, b.Own
	return reflect.DeepEqual(plainRun(api.Run{Answers: [][]api.Answer{{a}}}), plainRun(api.Run{Answers: [][]api.Answer{{b}}}))
}

func wantPlay(t *testing.T, promise string, s shape, c api.Case, want api.Run, rows [][]int) {
	t.Helper()
	run, got, err := hazard.Play(s.slots, s.workers, s.roots, c)
	if err != api.OK || !sameRun(run, want) || !sameLists(got, rows) {
		t.Fatalf("%s: Play(%+v, %+v)\ngot  %+v %v %v\nwant %+v %v", promise, s, c, run, got, err, want, rows)
	}
}

// wantModel holds a Play against the model.
func wantModel(t *testing.T, promise string, s shape, c api.Case) (api.Run, state) {
	t.Helper()
	m := newModel(s)
	run := modelRun(c, m.begin(true))
	wantPlay(t, promise, s, c, run, m.state().rows())
	return run, m.state()
}

// wantNamed holds calls by their names, of a run over new racks, against the model.
func wantNamed(t *testing.T, promise string, s shape, c api.Case) (api.Run, state) {
	t.Helper()
	b, m := newReal(t, s), newModel(s)
	got, err := crew.Run(c, b)
	want := modelRun(c, m.begin(false))
	if err != api.OK || !sameRun(got, want) || !b.state().same(m.state()) {
		t.Fatalf("%s: %+v, %+v\ngot  %+v %+v %v\nwant %+v %+v", promise, s, c, got, b.state(), err, want, m.state())
	}
	return got, b.state()
}

var (
	noSizes    = []int{lowest, lowest + 1, -1 << 32, -4096, -1, 0, 4097, 4098, 8192, 1 << 20, 1 << 32, 1<<32 + 1, highest - 1, highest}
	noWorkers  = []int{lowest, -1 << 32, -8, -1, 0, 9, 10, 16, 1 << 32, 1<<32 + 1, highest}
	noRoots    = []int{lowest, -1 << 32, -16, -1, 0, 17, 18, 32, 1 << 32, 1<<32 + 1, highest}
	noHazards  = []int{lowest, -1 << 32, -2, -1, 2, 3, 4, 1 << 32, 1<<32 + 1, highest}
	farNumbers = []int{lowest, lowest + 1, -1 << 32, -65, -2, -1, 0, 1, 2, 63, 64, 65, 1 << 32, highest - 1, highest}
	fewHalts   = []int{lowest, -1, 0, 0, 0, 1, 2, 3, 4, 5, 8, 12, 20, highest}
	fewUntils  = []int{0, 0, 0, 0, 1, 2, 3, 7, 15, 40, 19999, 20000}
)

// noHandles: what is no handle of a slot of a pool of n.
func noHandles(n int) []int {
	return []int{
		0, 1, 5, word(0, 1), word(n+1, 1), word(n+1, 3), word(8192, 1), word(1, 0), word(1, 2), word(n, 2),
		1<<60 + word(1, 1), 1<<62 + word(1, 1), 1 << 60, -1, -word(1, 1), lowest + word(1, 1), lowest, highest,
	}
}

// manners: which calls come.
type manners struct {
	wild  bool // calls that can't be, workers that are none of it
	hands bool // pool calls by hand
	both  bool // calls of a second rack
	stops bool // halts and cuts always
}

func (m *mixer) call(s shape, how manners) api.Call {
	i, root := m.below(2), m.below(s.roots)
	c := api.Call{}
	switch m.below(16) {
	case 0, 1, 2:
		c = protect(i, root)
	case 3, 4:
		c = read(i)
	case 5, 6:
		c = clearOf(i)
	case 7, 8, 9:
		c = swap(root, m.one(farNumbers))
	case 10, 11:
		c = put(i, root, m.one(farNumbers))
	case 12:
		c = drop(root)
	default:
		c = scan()
	}
	if how.both && m.below(2) == 0 {
		return second(c)
	}
	if how.hands && m.below(6) == 0 {
		h := word(1+m.below(s.slots), 1+2*m.below(3))
		return m.anyOf([]api.Call{give(h), give(h), give(m.one(noHandles(s.slots))), take(7)})
	}
	if how.wild && m.below(10) == 0 {
		bad, at := m.one(noHazards), m.one([]int{-1, s.roots, lowest, highest})
		return m.anyOf([]api.Call{
			{Kind: 0}, {Kind: -1}, {Kind: 8}, {Kind: lowest}, {Kind: highest}, protect(bad, root), protect(i, at), protect(bad, at), read(bad),
			clearOf(bad), swap(at, 1), put(bad, root, 1), put(i, at, 1), put(bad, at, 1), drop(at),
		})
	}
	return c
}

func (m *mixer) anyOf(list []api.Call) api.Call { return list[m.below(len(list))] }

// mixed: what a run is of.
type mixed struct {
	s shape
	c api.Case
}

func (m *mixer) mixed(how manners) mixed {
	x := mixed{s: shape{slots: m.one([]int{1, 2, 2, 3, 3, 4, 6, 9}), workers: 1 + m.below(4), roots: m.one([]int{1, 1, 2, 2, 3})}}
	n := x.s.workers
	if how.wild {
		n += m.below(3)
	}
	if how.both {
		x.s.racks, x.s.pools = 2, 1+m.below(2)
	}
	for range n {
		var calls []api.Call
		for range m.below(20) {
			calls = append(calls, m.call(x.s, how))
		}
		x.c.Work = append(x.c.Work, calls)
	}
	for range m.below(120) {
		x.c.Turns = append(x.c.Turns, m.one(farNumbers)+m.below(8))
	}
	// A worker that goes on for some time makes that others meet what it left.
	for range m.below(8) {
		k, times := m.below(8), m.below(12)
		x.c.Turns = append(x.c.Turns, slices.Repeat([]int{k}, times)...)
	}
	if how.stops || m.below(2) == 0 {
		for range m.below(7) {
			x.c.Halt = append(x.c.Halt, m.one(fewHalts))
		}
		x.c.Until = m.one(fewUntils)
	}
	return x
}

// mixedRuns calls f with so many cases.
func mixedRuns(seed, count int, how manners, f func(x mixed)) {
	m := mixer(seed)
	for range count {
		f(m.mixed(how))
	}
}

// takesLong: left out where it would take too long.
func takesLong(t *testing.T) {
	t.Helper()
	if testing.Short() {
		t.Skip("it takes long")
	}
}
