package chain_test

import (
	"iter"
	"math"
	"slices"

	"skein/api"
)

// The calls of Play, by their names.
func first(a int) api.Call { return api.Call{Kind: 1, A: a} }
func top() api.Call        { return api.Call{Kind: 2} }
func push(a int, set ...int) api.Call {
	return api.Call{Kind: 3, A: a, Pairs: pairsOf(set)}
}
func at(stamp int) api.Call { return api.Call{Kind: 4, A: stamp} }
func cut() api.Call         { return api.Call{Kind: 5} }
func move() api.Call        { return api.Call{Kind: 6} }

// Calls that Play hasn't: what they go by is told by numbers; the last ones are the pool's and the clock's.
const (
	kindPushOn = iota + 101
	kindCutOf
	kindSlot
	kindGive
	kindMark
	kindLink
	kindLease
	kindFree
)

func pushOn(old, a int, set ...int) api.Call {
	return api.Call{Kind: kindPushOn, A: old, B: a, Pairs: pairsOf(set)}
}
func cutOf(h int) api.Call          { return api.Call{Kind: kindCutOf, A: h} }
func slot(a, link int) api.Call     { return api.Call{Kind: kindSlot, A: a, B: link} }
func give(h int) api.Call           { return api.Call{Kind: kindGive, A: h} }
func mark(h, old, v int) api.Call   { return api.Call{Kind: kindMark, A: h, B: old, C: v} }
func link(h, v int) api.Call        { return api.Call{Kind: kindLink, A: h, B: v} }
func lease() api.Call               { return api.Call{Kind: kindLease} }
func free(i int) api.Call           { return api.Call{Kind: kindFree, A: i} }
func work(l ...[]api.Call) api.Case { return api.Case{Work: l} }

// pairsOf: pairs with these keys; their values are of no use.
func pairsOf(set []int) []api.Pair {
	var list []api.Pair
	for i, n := range set {
		list = append(list, api.Pair{Key: n, Value: -i})
	}
	return list
}

func keysOf(pairs []api.Pair) []int {
	var list []int
	for _, x := range pairs {
		list = append(list, x.Key)
	}
	return list
}

// word: a slot and a generation in one.
func word(slot, gen int) int { return slot<<40 + gen }

const (
	lowest    = math.MinInt
	highest   = math.MaxInt
	mostSlots = 4096
)

// upTo: 1 to n.
func upTo(n int) []int {
	list := make([]int, n)
	for i := range list {
		list[i] = i + 1
	}
	return list
}

// state: all that a chain, its pool and its clock tell of themselves while nobody does a call.
type state struct {
	versions []int
	sets     [][]int // by slot, of the handle by which it is in use
	slots    []api.Slot
	free     []int
	faults   int
	now      int
	leases   []int
}

// newState: that of a new chain.
func newState(slots, leases int) state {
	return state{sets: make([][]int, slots), slots: make([]api.Slot, slots), free: upTo(slots), now: 1, leases: make([]int, leases)}
}

func (s state) same(o state) bool {
	return slices.Equal(s.versions, o.versions) && sameLists(s.sets, o.sets) && slices.Equal(s.slots, o.slots) &&
		slices.Equal(s.free, o.free) && s.faults == o.faults && s.now == o.now && slices.Equal(s.leases, o.leases)
}

// sameLists holds lists against each other; a nil list and an empty one are the same.
func sameLists(a, b [][]int) bool { return slices.EqualFunc(a, b, slices.Equal) }

func (s state) clone() state {
	s.versions, s.slots, s.free, s.leases = slices.Clone(s.versions), slices.Clone(s.slots), slices.Clone(s.free), slices.Clone(s.leases)
	s.sets = slices.Clone(s.sets)
	return s
}

// rows: what a Play tells at the end.
func (s state) rows() [][]int {
	var rows [][]int
	for _, h := range s.versions {
		x := s.slots[h>>40-1]
		rows = append(rows, append([]int{h >> 40, x.Node.A, x.Mark}, s.sets[h>>40-1]...))
	}
	return rows
}

// model: a pool, a clock, a chain and the hands of a Play, as the chapters' lines say them.
type model struct {
	slots    []api.Slot
	top, tag int // of the pool's pile
	next     []int
	faults   int
	now      int
	leases   []int
	head     int
	sets     map[int][]int // by handle
	hands    [8]int
	stops    []func()
}

func newModel(slots, leases int) *model {
	m := &model{slots: make([]api.Slot, slots), top: 1, next: make([]int, slots+1), now: 1, leases: make([]int, leases), sets: map[int][]int{}}
	for i := 1; i < slots; i++ {
		m.next[i] = i + 1
	}
	return m
}

// told: what there is now; the model goes on.
func (m *model) told() state {
	s := state{slots: slices.Clone(m.slots), faults: m.faults, now: m.now, leases: slices.Clone(m.leases), sets: make([][]int, len(m.slots))}
	for i := m.top; i != 0; i = m.next[i] {
		s.free = append(s.free, i)
	}
	for h := m.head; m.inUse(h) && len(s.versions) < len(m.slots); h = m.slots[h>>40-1].Link {
		s.versions = append(s.versions, h)
	}
	for i, x := range m.slots {
		if x.Gen%2 == 1 {
			s.sets[i] = m.sets[word(i+1, x.Gen)]
		}
	}
	return s
}

// isHandle tells whether h is a handle of a slot of the pool.
func (m *model) isHandle(h int) bool {
	return h > 0 && h>>40 >= 1 && h>>40 <= len(m.slots) && h%2 == 1
}

func (m *model) inUse(h int) bool { return m.isHandle(h) && m.slots[h>>40-1].Gen == h%(1<<40) }

// doing: a call that is being done; step asks for its next line.
type doing struct {
	*model
	k    int
	step func()
}

func (d doing) pop() int {
	for {
		d.step()
		top, tag := d.top, d.tag
		if top == 0 {
			return 0
		}
		d.step()
		below := d.next[top]
		d.step()
		if d.top == top && d.tag == tag {
			d.top, d.tag = below, tag+1
			return top
		}
	}
}

func (d doing) lay(i int) {
	for {
		d.step()
		top, tag := d.top, d.tag
		d.step()
		d.next[i] = top
		d.step()
		if d.top == top && d.tag == tag {
			d.top, d.tag = i, tag+1
			return
		}
	}
}

func (d doing) slot(x api.Node, link int) (int, api.Errno) {
	i := d.pop()
	if i == 0 {
		return 0, 102
	}
	gen := d.slots[i-1].Gen + 1
	d.slots[i-1] = api.Slot{Gen: gen, Node: x, Link: link}
	return word(i, gen), 0
}

func (d doing) give(h int) api.Errno {
	d.step()
	if !d.isHandle(h) {
		return 103
	}
	if !d.inUse(h) {
		return 104
	}
	d.slots[h>>40-1] = given(h%(1<<40) + 1)
	d.lay(h >> 40)
	return 0
}

// given: a slot that was given back.
func given(gen int) api.Slot {
	const q = -7777777
	return api.Slot{Gen: gen, Node: api.Node{A: q, B: q, C: q, D: q}, Mark: q, Link: q}
}

// meet is a line: the slot of a handle.
func (d doing) meet(h int) (*api.Slot, api.Errno) {
	d.step()
	if !d.isHandle(h) {
		return nil, 103
	}
	if !d.inUse(h) {
		d.faults++
		return nil, 104
	}
	return &d.slots[h>>40-1], 0
}

func (d doing) mark(h int) (int, api.Errno) {
	x, err := d.meet(h)
	if err != 0 {
		return 0, err
	}
	return x.Mark, 0
}

func (d doing) casMark(h, old, v int) (bool, api.Errno) {
	x, err := d.meet(h)
	if err != 0 || x.Mark != old {
		return false, err
	}
	x.Mark = v
	return true, 0
}

func (d doing) swapLink(h, v int) (int, api.Errno) {
	x, err := d.meet(h)
	if err != 0 {
		return 0, err
	}
	was := x.Link
	x.Link = v
	return was, 0
}

func (d doing) lease() (api.Snap, api.Errno) {
	i := 0
	for {
		if i == len(d.leases) {
			return api.Snap{}, 132
		}
		d.step()
		if d.leases[i] == 0 {
			d.leases[i] = 1
			break
		}
		i++
	}
	d.step()
	t := d.now
	for {
		d.step()
		d.leases[i] = t + 1
		d.step()
		if d.now == t {
			break
		}
		t = d.now
	}
	d.step()
	if d.now == t {
		d.now = t + 1
	}
	return api.Snap{Lease: i, Stamp: t}, 0
}

func (d doing) free(i int) api.Errno {
	d.step()
	if i < 0 || i >= len(d.leases) {
		return 133
	}
	was := d.leases[i]
	d.leases[i] = 0
	if was == 0 {
		return 133
	}
	return 0
}

func (d doing) settle(h int) (int, api.Errno) {
	stamp, err := d.mark(h) // 1
	if err != 0 || stamp != 0 {
		return stamp, err
	}
	d.step() // 2
	t := d.now
	done, err := d.casMark(h, 0, t) // 3
	if err != 0 {
		return 0, err
	}
	if done {
		return t, 0
	}
	return d.mark(h) // 4
}

// publish: a cas of the head; if it isn't done, the slot is given back.
func (d doing) publish(old, h int) bool {
	d.step()
	if d.head == old {
		d.head = h
		return true
	}
	d.give(h)
	return false
}

func (d doing) first(x api.Node) (int, api.Errno) {
	h, err := d.slot(x, 0)
	if err != 0 {
		return 0, err
	}
	if _, err := d.casMark(h, 0, 1); err != 0 {
		return 0, err
	}
	if !d.publish(0, h) {
		return 0, 142
	}
	return h, 0
}

func (d doing) newest() (int, int, api.Errno) {
	d.step()
	h := d.head
	if h == 0 {
		return 0, 0, 141
	}
	stamp, err := d.settle(h)
	if err != 0 {
		return 0, 0, err
	}
	return h, stamp, 0
}

func (d doing) push(old int, x api.Node, set []int) (int, bool, api.Errno) {
	h, err := d.slot(x, old)
	if err != 0 {
		return 0, false, err
	}
	d.sets[h] = set
	if !d.publish(old, h) {
		return 0, false, 0
	}
	if _, err := d.settle(h); err != 0 {
		return 0, false, err
	}
	return h, true, 0
}

func (d doing) at(stamp int) (int, api.Errno) {
	h, is, err := d.newest()
	if err != 0 {
		return 0, err
	}
	for is > stamp {
		x, err := d.meet(h)
		if err != 0 {
			return 0, err
		}
		if h = x.Link; h == 0 {
			return 0, 141
		}
		if is, err = d.mark(h); err != 0 {
			return 0, err
		}
	}
	return h, 0
}

func (d doing) cut(h int) (int, []int, api.Errno) {
	was, err := d.swapLink(h, 0)
	if err != 0 || was == 0 {
		return 0, nil, err
	}
	set := d.sets[h]
	delete(d.sets, h)
	return was, set, 0
}

// move: a lease is taken and let go.
func (d doing) move() (int, api.Errno) {
	s, err := d.lease()
	if err != 0 {
		return 0, err
	}
	if err := d.free(s.Lease); err != 0 {
		return 0, err
	}
	return s.Stamp, 0
}

// told: an answer that tells a handle, a stamp.
func told(h, stamp int, err api.Errno) api.Answer {
	return api.Answer{Ok: err == 0, N: h, M: stamp, Err: err}
}

// chain does a call of Play's; of a handle its answer tells all, not the index alone.
func (d doing) chain(c api.Call) api.Answer {
	hand := &d.hands[d.k]
	switch c.Kind {
	case 1:
		h, err := d.first(api.Node{A: c.A})
		return told(h, 0, err)
	case 2:
		h, stamp, err := d.newest()
		*hand = h
		return told(h, stamp, err)
	case 3:
		h, ok, err := d.push(*hand, api.Node{A: c.A}, keysOf(c.Pairs))
		return api.Answer{Ok: ok, N: h, Err: err}
	case 4:
		h, err := d.at(c.A)
		*hand = h
		return told(h, 0, err)
	case 5:
		h, set, err := d.cut(*hand)
		return api.Answer{Ok: err == 0, N: h, Ints: set, Err: err}
	case 6:
		stamp, err := d.move()
		return told(0, stamp, err)
	}
	d.step()
	return api.Answer{Err: 140}
}

// named does a call by its name.
func (d doing) named(c api.Call) api.Answer {
	switch c.Kind {
	case kindPushOn:
		h, ok, err := d.push(c.A, api.Node{A: c.B}, keysOf(c.Pairs))
		return api.Answer{Ok: ok, N: h, Err: err}
	case kindCutOf:
		h, set, err := d.cut(c.A)
		return api.Answer{Ok: err == 0, N: h, Ints: set, Err: err}
	case kindSlot:
		h, err := d.slot(api.Node{A: c.A}, c.B)
		return told(h, 0, err)
	case kindGive:
		return told(0, 0, d.give(c.A))
	case kindMark:
		ok, err := d.casMark(c.A, c.B, c.C)
		return api.Answer{Ok: ok, Err: err}
	case kindLink:
		h, err := d.swapLink(c.A, c.B)
		return told(h, 0, err)
	case kindLease:
		s, err := d.lease()
		return told(s.Lease, s.Stamp, err)
	case kindFree:
		return told(0, 0, d.free(c.A))
	}
	return d.chain(c)
}

// play does a call of Play's.
func (d doing) play(c api.Call) api.Answer {
	a := d.chain(c)
	a.N >>= 40
	return a
}

// cutOff: a call of the model's is let go.
type cutOff struct{}

// begin tells a call line by line.
func (m *model) begin(isPlay bool) func(k int, c api.Call) line {
	return func(k int, c api.Call) line {
		var a api.Answer
		next, stop := iter.Pull(func(yield func(int) bool) {
			defer func() {
				if r := recover(); r != nil && r != any(cutOff{}) {
					panic(r)
				}
			}()
			d := doing{m, k, func() {
				if !yield(0) {
					panic(cutOff{})
				}
			}}
			if isPlay {
				a = d.play(c)
			} else {
				a = d.named(c)
			}
		})
		m.stops = append(m.stops, stop)
		_, more := next() // up to its first line
		return func() (api.Answer, bool) {
			if more {
				_, more = next()
			}
			return a, !more
		}
	}
}

// run does a case, line by line.
func (m *model) run(c api.Case, isPlay bool) api.Run {
	run := modelRun(c, m.begin(isPlay))
	for _, stop := range m.stops {
		stop()
	}
	m.stops = nil
	return run
}

// alone does a named call of worker 0 with all its lines at once; Own tells how many.
func (m *model) alone(c api.Call) api.Answer {
	lines := 0
	a := doing{m, 0, func() { lines++ }}.named(c)
	a.Own = lines
	return a
}
