package trim_test

import (
	"iter"
	"math"
	"slices"

	"skein/api"
)

// The calls of Play, by their names.
func begin(value int) api.Call { return api.Call{Kind: 1, A: value} }
func write(value int) api.Call { return api.Call{Kind: 2, A: value} }
func read() api.Call           { return api.Call{Kind: 3} }
func snap(register int) api.Call {
	return api.Call{Kind: 4, A: register}
}
func free(register int) api.Call { return api.Call{Kind: 5, A: register} }
func peek(register int) api.Call { return api.Call{Kind: 6, A: register} }
func shorten() api.Call          { return api.Call{Kind: 7} }
func advance() api.Call          { return api.Call{Kind: 8} }
func collect() api.Call          { return api.Call{Kind: 9} }

// Calls that Play hasn't: those of the layers below, by which a chain can be laid as none of Play's calls would.
const (
	kindEnter = iota + 101
	kindLeave
	kindSlot
	kindGive
	kindFirst
	kindPush
	kindCut
	kindRetire
	kindTake
	kindRelease
	kindLink
	kindMark
	kindBury
)

func enter() api.Call               { return api.Call{Kind: kindEnter} }
func leave() api.Call               { return api.Call{Kind: kindLeave} }
func slot(a int) api.Call           { return api.Call{Kind: kindSlot, A: a} }
func give(h int) api.Call           { return api.Call{Kind: kindGive, A: h} }
func first(a int) api.Call          { return api.Call{Kind: kindFirst, A: a} }
func cut(h int) api.Call            { return api.Call{Kind: kindCut, A: h} }
func retire(h int) api.Call         { return api.Call{Kind: kindRetire, A: h} }
func lease() api.Call               { return api.Call{Kind: kindTake} }
func release(lease int) api.Call    { return api.Call{Kind: kindRelease, A: lease} }
func link(h, v int) api.Call        { return api.Call{Kind: kindLink, A: h, B: v} }
func mark(h, old, v int) api.Call   { return api.Call{Kind: kindMark, A: h, B: old, C: v} }
func bury(k int) api.Call           { return api.Call{Kind: kindBury, A: k} }
func work(l ...[]api.Call) api.Case { return api.Case{Work: l} }

// push: a version upon an old one, with that node's A and that set.
func push(old, a int, set ...int) api.Call {
	c := api.Call{Kind: kindPush, A: old, B: a}
	for _, h := range set {
		c.Pairs = append(c.Pairs, api.Pair{Key: h})
	}
	return c
}

func keysOf(pairs []api.Pair) []int {
	var list []int
	for _, x := range pairs {
		list = append(list, x.Key)
	}
	return list
}

// word: a slot and a generation in one.
func word(slot, gen int) int { return slot<<40 + gen }

const (
	lowest     = math.MinInt
	highest    = math.MaxInt
	mostSlots  = 4096
	mostLeases = 64
)

// upTo: 1 to n.
func upTo(n int) []int {
	list := make([]int, n)
	for i := range list {
		list[i] = i + 1
	}
	return list
}

// sizes: of what a cell is made: slots, workers, leases.
type sizes struct{ slots, workers, leases int }

// known: how many workers the epoch knows.
func (z sizes) known() int { return min(max(z.workers, 1), 8) }

// state: all that a cell tells of itself while nobody does a call.
type state struct {
	slots    []api.Slot
	free     []int
	faults   int
	now      int // the clock's
	leases   []int
	versions []int
	sets     [][]int // by slot
	epoch    int
	at       []int
	waiting  [][]int // by worker
}

// newState: that of a new one.
func newState(z sizes) state {
	return state{
		slots: make([]api.Slot, z.slots), free: upTo(z.slots), now: 1, leases: make([]int, z.leases), sets: make([][]int, z.slots),
		epoch: 1, at: make([]int, z.known()), waiting: make([][]int, z.known()),
	}
}

func (s state) same(o state) bool {
	return slices.Equal(s.slots, o.slots) && slices.Equal(s.free, o.free) && s.faults == o.faults && s.now == o.now && slices.Equal(s.leases, o.leases) &&
		slices.Equal(s.versions, o.versions) && sameLists(s.sets, o.sets) && s.epoch == o.epoch && slices.Equal(s.at, o.at) && sameLists(s.waiting, o.waiting)
}

// sameLists holds lists against each other; a nil list and an empty one are the same.
func sameLists(a, b [][]int) bool { return slices.EqualFunc(a, b, slices.Equal) }

func (s state) clone() state {
	s.slots, s.free, s.leases, s.at = slices.Clone(s.slots), slices.Clone(s.free), slices.Clone(s.leases), slices.Clone(s.at)
	s.versions, s.sets, s.waiting = slices.Clone(s.versions), slices.Clone(s.sets), slices.Clone(s.waiting)
	return s
}

// slot: that of a handle.
func (s state) slot(h int) api.Slot { return s.slots[h>>40-1] }

// value: what a version's value is.
func (s state) value(h int) int { return s.slot(s.slot(h).Node.A).Node.A }

// rows: what a Play tells at the end.
func (s state) rows() [][]int {
	rows := [][]int{{s.epoch, len(s.free), s.faults}, s.leases}
	for _, h := range s.versions {
		rows = append(rows, []int{s.value(h), s.slot(h).Mark})
	}
	return rows
}

// used: how many slots are in use.
func (s state) used() int {
	n := 0
	for _, x := range s.slots {
		n += x.Gen % 2
	}
	return n
}

type waits struct{ handle, epoch int }

// model: a pool, a clock, an epoch, a chain and their calls, as the chapters' lines say them.
type model struct {
	slots     []api.Slot // that of 0 is idle
	top, tag  int        // of the pool's pile
	next      []int
	faults    int
	now       int
	leases    []int
	head      int
	sets      map[int][]int // by handle
	epoch     int
	at, depth []int
	waits     [][]waits
	registers [8][4]api.Snap
	stops     []func()
	plays     bool // it knows Play's calls alone
	films     bool
	film      []state // behind each step, if it films
}

func newModel(z sizes) *model {
	m := &model{
		slots: make([]api.Slot, z.slots+1), top: 1, next: make([]int, z.slots+1), now: 1, leases: make([]int, z.leases), sets: map[int][]int{},
		epoch: 1, at: make([]int, z.known()), depth: make([]int, z.known()), waits: make([][]waits, z.known()),
	}
	for i := 1; i < z.slots; i++ {
		m.next[i] = i + 1
	}
	return m
}

// told: what there is now; the model goes on.
func (m *model) told() state {
	s := state{slots: slices.Clone(m.slots[1:]), faults: m.faults, now: m.now, leases: slices.Clone(m.leases), epoch: m.epoch, at: slices.Clone(m.at)}
	for i := m.top; i != 0; i = m.next[i] {
		s.free = append(s.free, i)
	}
	for h := m.head; m.inUse(h) && len(s.versions) < len(s.slots); h = m.slots[h>>40].Link {
		s.versions = append(s.versions, h)
	}
	for i, x := range s.slots {
		var set []int
		if h := word(i+1, x.Gen); m.inUse(h) {
			set = m.sets[h]
		}
		s.sets = append(s.sets, set)
	}
	for _, list := range m.waits {
		var handles []int
		for _, x := range list {
			handles = append(handles, x.handle)
		}
		s.waiting = append(s.waiting, handles)
	}
	return s
}

// isHandle tells whether h is a handle of a slot of the pool.
func (m *model) isHandle(h int) bool {
	return h > 0 && h>>40 >= 1 && h>>40 < len(m.slots) && h%2 == 1
}

func (m *model) inUse(h int) bool { return m.isHandle(h) && m.slots[h>>40].Gen == h%(1<<40) }

// doing: a call that is being done by a worker; step asks for its next line.
type doing struct {
	*model
	k    int
	step func()
}

func (d doing) take(x api.Node, link int) (int, api.Errno) {
	for {
		d.step()
		top, tag := d.top, d.tag
		if top == 0 {
			return 0, 102
		}
		d.step()
		below := d.next[top]
		d.step()
		if d.top == top && d.tag == tag {
			d.top, d.tag = below, tag+1
			d.slots[top] = api.Slot{Gen: d.slots[top].Gen + 1, Node: x, Link: link}
			return word(top, d.slots[top].Gen), 0
		}
	}
}

// given: a slot that was given back.
func given(gen int) api.Slot {
	const q = -7777777
	return api.Slot{Gen: gen, Node: api.Node{A: q, B: q, C: q, D: q}, Mark: q, Link: q}
}

func (d doing) give(h int) api.Errno {
	d.step()
	if !d.isHandle(h) {
		return 103
	}
	if !d.inUse(h) {
		return 104
	}
	i := h >> 40
	d.slots[i] = given(h%(1<<40) + 1)
	for {
		d.step()
		top, tag := d.top, d.tag
		d.step()
		d.next[i] = top
		d.step()
		if d.top == top && d.tag == tag {
			d.top, d.tag = i, tag+1
			return 0
		}
	}
}

// meet is a line: the slot of a handle.
func (d doing) meet(h int) (*api.Slot, api.Errno) {
	d.step()
	if !d.isHandle(h) {
		return &api.Slot{}, 103
	}
	if !d.inUse(h) {
		d.faults++
		return &api.Slot{}, 104
	}
	return &d.slots[h>>40], 0
}

func (d doing) settle(h int) (int, api.Errno) {
	s, err := d.meet(h) // 1
	if err != 0 || s.Mark != 0 {
		return s.Mark, err
	}
	d.step() // 2
	now := d.now
	s, err = d.meet(h) // 3
	if err != 0 {
		return 0, err
	}
	if s.Mark == 0 {
		s.Mark = now
		return now, 0
	}
	s, err = d.meet(h) // 4
	return s.Mark, err
}

func (d doing) first(x api.Node) (int, api.Errno) {
	h, err := d.take(x, 0)
	if err != 0 {
		return 0, err
	}
	s, err := d.meet(h)
	if err != 0 {
		return 0, err
	}
	if s.Mark == 0 {
		s.Mark = 1
	}
	d.step()
	if d.head != 0 {
		d.give(h)
		return 0, 142
	}
	d.head = h
	return h, 0
}

func (d doing) newest() (int, int, api.Errno) {
	d.step()
	h := d.head
	if h == 0 {
		return 0, 0, 141
	}
	stamp, err := d.settle(h)
	return h, stamp, err
}

func (d doing) push(old int, x api.Node, set []int) (int, bool, api.Errno) {
	h, err := d.take(x, old)
	if err != 0 {
		return 0, false, err
	}
	d.sets[h] = set
	d.step()
	if d.head != old {
		d.give(h)
		return 0, false, 0
	}
	d.head = h
	if _, err = d.settle(h); err != 0 {
		return 0, false, err
	}
	return h, true, 0
}

// shown is At.
func (d doing) shown(stamp int) (int, api.Errno) {
	h, is, err := d.newest()
	for err == 0 && is > stamp {
		var s *api.Slot
		if s, err = d.meet(h); err != 0 {
			break
		}
		if h = s.Link; h == 0 {
			return 0, 141
		}
		s, err = d.meet(h)
		is = s.Mark
	}
	if err != 0 {
		return 0, err
	}
	return h, 0
}

func (d doing) cut(h int) (int, []int, api.Errno) {
	s, err := d.meet(h)
	if err != 0 || s.Link == 0 {
		return 0, nil, err
	}
	y, set := s.Link, d.sets[h]
	s.Link = 0
	delete(d.sets, h)
	return y, set, 0
}

// isWorker is what each call of an epoch begins with: whether the worker is one of it.
func (d doing) isWorker() bool {
	d.step()
	return d.k < len(d.at)
}

func (d doing) enter() api.Errno {
	if !d.isWorker() {
		return 111
	}
	if d.depth[d.k] == 0 {
		now := d.epoch
		d.step()
		d.at[d.k] = now
	}
	d.depth[d.k]++
	return 0
}

func (d doing) leave() api.Errno {
	if !d.isWorker() {
		return 111
	}
	if d.depth[d.k] == 0 {
		return 112
	}
	if d.depth[d.k]--; d.depth[d.k] == 0 {
		d.at[d.k] = 0
	}
	return 0
}

func (d doing) retire(h int) api.Errno {
	if !d.isWorker() {
		return 111
	}
	d.waits[d.k] = append(slices.Clone(d.waits[d.k]), waits{h, d.epoch})
	return 0
}

func (d doing) advance() bool {
	if !d.isWorker() {
		return false
	}
	now := d.epoch
	for j := range d.at {
		d.step()
		if d.at[j] != 0 && d.at[j] != now {
			return false
		}
	}
	d.step()
	if d.epoch != now {
		return false
	}
	d.epoch++
	return true
}

func (d doing) collect() (int, api.Errno) {
	if !d.isWorker() {
		return 0, 111
	}
	now, list, n := d.epoch, &d.waits[d.k], 0
	for {
		i := slices.IndexFunc(*list, func(x waits) bool { return x.epoch+2 <= now })
		if i < 0 {
			return n, 0
		}
		d.give((*list)[i].handle)
		*list = slices.Delete(slices.Clone(*list), i, i+1)
		n++
	}
}

func (d doing) bury(k int) api.Errno {
	if !d.isWorker() || k < 0 || k >= len(d.at) || k == d.k {
		return 111
	}
	d.at[k], d.depth[k] = 0, 0
	d.waits[d.k] = append(slices.Clone(d.waits[d.k]), d.waits[k]...)
	d.waits[k] = nil
	return 0
}

// lease is the clock's Take.
func (d doing) lease() (api.Snap, api.Errno) {
	for i := range d.leases {
		d.step()
		if d.leases[i] != 0 {
			continue
		}
		d.leases[i] = 1
		d.step() // a
		t := d.now
		for {
			d.step() // b
			d.leases[i] = t + 1
			d.step() // c
			if d.now == t {
				break
			}
			t = d.now
		}
		d.step() // d
		if d.now == t {
			d.now++
		}
		return api.Snap{Lease: i, Stamp: t}, 0
	}
	return api.Snap{}, 132
}

func (d doing) release(i int) api.Errno {
	d.step()
	if i < 0 || i >= len(d.leases) || d.leases[i] == 0 {
		return 133
	}
	d.leases[i] = 0
	return 0
}

func (d doing) least() int {
	d.step()
	m := d.now
	for i := range d.leases {
		d.step()
		if is := d.leases[i]; is != 0 {
			m = min(m, is-1)
		}
	}
	return m
}

// trim: P17.1.
func (d doing) trim() (int, api.Errno) {
	if err := d.enter(); err != 0 {
		return 0, err
	}
	n, err := d.cutBehind(d.least())
	d.leave()
	if err != 0 {
		return 0, err
	}
	return n, 0
}

func (d doing) cutBehind(t int) (int, api.Errno) {
	v, err := d.shown(t)
	if err == 141 {
		return 0, 0
	}
	n := 0
	for err == 0 {
		var y int
		var set []int
		if y, set, err = d.cut(v); err != 0 || y == 0 {
			break
		}
		for _, h := range set {
			d.retire(h)
		}
		d.retire(y)
		n += len(set) + 1
		v = y
	}
	return n, err
}

// went: an answer that tells a number.
func went(n int, err api.Errno) api.Answer { return api.Answer{Ok: err == 0, N: n, Err: err} }

func (d doing) refuse(err api.Errno) api.Answer {
	d.step()
	return went(0, err)
}

// begin, write, read, byRegister: P17.2.
func (d doing) begin(value int) api.Errno {
	v, err := d.take(api.Node{A: value}, 0)
	if err != 0 {
		return err
	}
	if _, err = d.first(api.Node{A: v}); err != 0 {
		d.give(v)
	}
	return err
}

func (d doing) write(value int) api.Errno {
	if err := d.enter(); err != 0 {
		return err
	}
	v, err := d.take(api.Node{A: value}, 0)
	if err != 0 {
		d.leave()
		return err
	}
	for ok := false; !ok; {
		var h int
		var old *api.Slot
		if h, _, err = d.newest(); err != 0 {
			break
		}
		if old, err = d.meet(h); err != 0 {
			break
		}
		if _, ok, err = d.push(h, api.Node{A: v}, []int{old.Node.A}); err != 0 {
			break
		}
	}
	if err != 0 {
		d.give(v)
	}
	d.leave()
	return err
}

// valueOf: two lines: a version's value.
func (d doing) valueOf(h int) (int, api.Errno) {
	s, err := d.meet(h)
	if err != 0 {
		return 0, err
	}
	s, err = d.meet(s.Node.A)
	return s.Node.A, err
}

func (d doing) read() api.Answer {
	if err := d.enter(); err != 0 {
		return went(0, err)
	}
	h, stamp, err := d.newest()
	value := 0
	if err == 0 {
		value, err = d.valueOf(h)
	}
	d.leave()
	if err != 0 {
		return went(0, err)
	}
	return api.Answer{Ok: true, N: value, M: stamp}
}

func (d doing) byRegister(c api.Call) api.Answer {
	if c.A < 0 || c.A > 3 {
		return d.refuse(map[int]api.Errno{4: 130, 5: 130, 6: 170}[c.Kind])
	}
	is := &d.registers[d.k][c.A]
	switch {
	case c.Kind == 4 && is.Stamp != 0:
		return d.refuse(130)
	case c.Kind == 4:
		s, err := d.lease()
		if err != 0 {
			return went(0, err)
		}
		*is = s
		return api.Answer{Ok: true, N: s.Lease, M: s.Stamp}
	case is.Stamp == 0:
		return d.refuse(133)
	case c.Kind == 5:
		err := d.release(is.Lease)
		*is = api.Snap{}
		return went(0, err)
	}
	h, err := d.shown(is.Stamp)
	if err != 0 {
		return went(0, err)
	}
	return went(d.valueOf(h))
}

// play does a call of Play's.
func (d doing) play(c api.Call) api.Answer {
	switch c.Kind {
	case 1:
		return went(0, d.begin(c.A))
	case 2:
		return went(0, d.write(c.A))
	case 3:
		return d.read()
	case 4, 5, 6:
		return d.byRegister(c)
	case 7:
		return went(d.trim())
	case 8:
		return api.Answer{Ok: d.advance()}
	case 9:
		return went(d.collect())
	}
	return d.refuse(170)
}

// named does a call by its name.
func (d doing) named(c api.Call) api.Answer {
	switch c.Kind {
	case kindEnter:
		return went(0, d.enter())
	case kindLeave:
		return went(0, d.leave())
	case kindSlot:
		return went(d.take(api.Node{A: c.A}, 0))
	case kindGive:
		return went(0, d.give(c.A))
	case kindFirst:
		return went(d.first(api.Node{A: c.A}))
	case kindPush:
		h, ok, err := d.push(c.A, api.Node{A: c.B}, keysOf(c.Pairs))
		return api.Answer{Ok: ok, N: h, Err: err}
	case kindCut:
		h, set, err := d.cut(c.A)
		return api.Answer{Ok: err == 0, N: h, Ints: set, Err: err}
	case kindRetire:
		return went(0, d.retire(c.A))
	case kindTake:
		s, err := d.lease()
		return api.Answer{Ok: err == 0, N: s.Lease, M: s.Stamp, Err: err}
	case kindRelease:
		return went(0, d.release(c.A))
	case kindLink:
		s, err := d.meet(c.A)
		was := s.Link
		s.Link = c.B
		return went(was, err)
	case kindMark:
		s, err := d.meet(c.A)
		ok := err == 0 && s.Mark == c.B
		if ok {
			s.Mark = c.C
		}
		return api.Answer{Ok: ok, Err: err}
	case kindBury:
		return went(0, d.bury(c.A))
	}
	return d.play(c)
}

// cutOff: a call of the model's is let go.
type cutOff struct{}

// begins tells a call line by line.
func (m *model) begins(k int, c api.Call) line {
	var a api.Answer
	next, stop := iter.Pull(func(yield func(int) bool) {
		defer func() {
			if r := recover(); r != nil && r != any(cutOff{}) {
				panic(r)
			}
		}()
		d := doing{m, k, func() {
			if !yield(0) {
				panic(cutOff{})
			}
		}}
		if m.plays {
			a = d.play(c)
		} else {
			a = d.named(c)
		}
	})
	m.stops = append(m.stops, stop)
	_, more := next() // up to its first line
	return func() (api.Answer, bool) {
		if more {
			_, more = next()
		}
		if m.films {
			m.film = append(m.film, m.told())
		}
		return a, !more
	}
}

// run does a case, line by line; next tells whose step is next, nil: the case does.
func (m *model) run(c api.Case, next func(m *runModel, ready []int) int) (api.Run, []pick) {
	run, picks := modelRun(c, m.begins, next)
	for _, stop := range m.stops {
		stop()
	}
	m.stops = nil
	return run, picks
}

// alone does a call of worker 0 with all its lines at once; Own tells how many.
func (m *model) alone(c api.Call) api.Answer {
	lines := 0
	a := doing{m, 0, func() { lines++ }}.named(c)
	a.Own = lines
	return a
}
