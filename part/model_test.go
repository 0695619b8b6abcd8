package part_test

import (
	"iter"
	"math"
	"slices"

	"skein/api"
)

// The calls of Play, by their names.
func get(key int) api.Call              { return api.Call{Kind: 1, A: key} }
func put(key, value int) api.Call       { return api.Call{Kind: 2, A: key, B: value} }
func drop(key int) api.Call             { return api.Call{Kind: 3, A: key} }
func swap(key, old, value int) api.Call { return api.Call{Kind: 4, A: key, B: old, C: value} }
func many(numbers ...int) api.Call      { return api.Call{Kind: 5, Pairs: pairs(numbers...)} }
func advance() api.Call                 { return api.Call{Kind: 6} }
func collect() api.Call                 { return api.Call{Kind: 7} }
func enter() api.Call                   { return api.Call{Kind: 8} }
func leave() api.Call                   { return api.Call{Kind: 9} }

// Calls that Play hasn't: a slot is taken, or given back; a chain gets a version, of any node; a handle waits; stamps move on; a part is loaded.
const (
	kindSlot = iota + 101
	kindGive
	kindFirst
	kindPush
	kindRetire
	kindTick
	kindReady
	kindOf = 200 // and ten for each part: a call of just that part, whatever its key
)

func slot(a, b, c, d int) api.Call {
	return api.Call{Kind: kindSlot, A: a, B: b, C: c, Pairs: pairs(d, 0)}
}
func give(h int) api.Call { return api.Call{Kind: kindGive, A: h} }
func first(part, root, number int) api.Call {
	return api.Call{Kind: kindFirst, A: part, B: root, C: number}
}
func publish(part, root, number int) api.Call {
	return api.Call{Kind: kindPush, A: part, B: root, C: number}
}
func retire(h int) api.Call             { return api.Call{Kind: kindRetire, A: h} }
func tick() api.Call                    { return api.Call{Kind: kindTick} }
func ready(part int) api.Call           { return api.Call{Kind: kindReady, A: part} }
func work(calls ...[]api.Call) api.Case { return api.Case{Work: calls} }

// of: a call of a part, whatever its key.
func of(part int, c api.Call) api.Call {
	c.Kind += kindOf + 10*part
	return c
}

// word: a slot and a generation in one.
func word(slot, gen int) int { return slot<<40 + gen }

const (
	lowest    = math.MinInt
	highest   = math.MaxInt
	mostKey   = 1<<32 - 1
	mostParts = 64
	mostSlots = 4096
)

// pairs: a key and its value, by turns.
func pairs(numbers ...int) []api.Pair {
	var list []api.Pair
	for i := 0; i < len(numbers); i += 2 {
		list = append(list, api.Pair{Key: numbers[i], Value: numbers[i+1]})
	}
	return list
}

// upTo: 1 to n.
func upTo(n int) []int {
	list := make([]int, n)
	for i := range list {
		list[i] = i + 1
	}
	return list
}

func isKey(key int) bool { return key >= 0 && key <= mostKey }

// least: the least key of a part.
func least(part, parts int) int {
	key := part << 32 / parts
	for key*parts < part<<32 {
		key++
	}
	return key
}

// isOf tells whether a key is a part's.
func isOf(key, part, parts int) bool {
	return isKey(key) && part >= 0 && part < parts && parts <= mostParts && key >= least(part, parts) && key < least(part+1, parts)
}

// partOf: the part of a key; -1: it is none.
func partOf(key, parts int) int {
	for i := range parts {
		if isOf(key, i, parts) {
			return i
		}
	}
	return -1
}

// target: the part to which a call goes by its key; -1: it has none.
func target(c api.Call, parts int) int {
	switch {
	case c.Kind != 5:
		return partOf(c.A, parts)
	case len(c.Pairs) == 0:
		return 0
	}
	return partOf(c.Pairs[0].Key, parts)
}

// state: all that a map's parts are made of tells of itself while nobody does a call.
type state struct {
	states   []int
	versions [][]int   // by part
	sets     [][][]int // by part, of each version
	slots    []api.Slot
	free     []int
	faults   int
	stamp    int // the clock's now
	epoch    int
	at       []int
	waiting  [][]int
}

// newState: that of a new one.
func newState(s api.Setup) state {
	workers := min(max(s.Workers, 1), 8)
	return state{
		states: make([]int, s.Parts), versions: make([][]int, s.Parts), sets: make([][][]int, s.Parts), slots: make([]api.Slot, s.Slots), free: upTo(s.Slots),
		stamp: 1, epoch: 1, at: make([]int, workers), waiting: make([][]int, workers),
	}
}

func (s state) same(o state) bool {
	return slices.Equal(s.states, o.states) && sameLists(s.versions, o.versions) && slices.EqualFunc(s.sets, o.sets, sameLists) &&
		slices.Equal(s.slots, o.slots) && slices.Equal(s.free, o.free) && s.faults == o.faults && s.stamp == o.stamp &&
		s.epoch == o.epoch && slices.Equal(s.at, o.at) && sameLists(s.waiting, o.waiting)
}

// sameLists holds lists against each other; a nil list and an empty one are the same.
func sameLists(a, b [][]int) bool { return slices.EqualFunc(a, b, slices.Equal) }

func (s state) clone() state {
	s.states, s.slots, s.free, s.at = slices.Clone(s.states), slices.Clone(s.slots), slices.Clone(s.free), slices.Clone(s.at)
	s.versions, s.sets, s.waiting = slices.Clone(s.versions), slices.Clone(s.sets), slices.Clone(s.waiting)
	return s
}

// node: what a slot holds that is in use by that handle.
func (s state) node(h int) api.Node { return s.slots[h>>40-1].Node }

// holds: what a tree holds, rising; nodes: its handles, and how many stand on its longest way.
func (s state) holds(root int) []api.Pair {
	if root == 0 {
		return nil
	}
	x := s.node(root)
	if x.A == 0 {
		return []api.Pair{{Key: x.B, Value: x.C}}
	}
	return append(s.holds(x.B), s.holds(x.C)...)
}

func (s state) nodes(root int) ([]int, int) {
	if root == 0 {
		return nil, 0
	}
	x := s.node(root)
	if x.A == 0 {
		return []int{root}, 1
	}
	left, a := s.nodes(x.B)
	right, b := s.nodes(x.C)
	return append(append([]int{root}, left...), right...), 1 + max(a, b)
}

// rows: what a Play tells at the end.
func (s state) rows() [][]int {
	rows := [][]int{{s.epoch, len(s.free), s.faults}}
	for _, list := range s.versions {
		var row []int
		if len(list) > 0 {
			x := s.slots[list[0]>>40-1]
			row = append(row, x.Node.B, x.Mark)
			for _, pair := range s.holds(x.Node.A) {
				row = append(row, pair.Key, pair.Value)
			}
		}
		rows = append(rows, row)
	}
	return rows
}

// used: how many slots are in use.
func (s state) used() int {
	n := 0
	for _, x := range s.slots {
		n += x.Gen % 2
	}
	return n
}

type waits struct{ handle, epoch int }

// round: of a write, from its Top's load of the head to its cas: the steps of both, and whether that was done.
type round struct {
	k, part, top, cas int
	ok                bool
}

// model: a pool, a clock, an epoch, chains, the loading of their parts, and the parts, as the chapters' lines say them.
type model struct {
	slots    []api.Slot // that of 0 is idle
	top, tag int        // of the pool's pile
	next     []int
	faults   int
	stamp    int
	leased   int
	epoch    int
	at       []int
	depth    []int
	waits    [][]waits
	heads    []int
	sets     map[int][]int // by handle
	states   []int
	fails    []int
	pairs    [][]api.Pair
	stops    []func()
	steps    int
	tops     [8]int // by worker the step at which it loaded a head last
	rounds   []round
	films    bool
	film     []state // behind each step, if it films
}

func newModel(s api.Setup) *model {
	workers := min(max(s.Workers, 1), 8)
	m := &model{
		slots: make([]api.Slot, s.Slots+1), top: 1, next: make([]int, s.Slots+1), stamp: 1,
		epoch: 1, at: make([]int, workers), depth: make([]int, workers), waits: make([][]waits, workers),
		heads: make([]int, s.Parts), sets: map[int][]int{}, states: make([]int, s.Parts), fails: make([]int, s.Parts), pairs: make([][]api.Pair, s.Parts),
	}
	for i := 1; i < s.Slots; i++ {
		m.next[i] = i + 1
	}
	for i := range s.Parts {
		m.fails[i] = s.Fails
		for _, x := range s.Source {
			if isOf(x.Key, i, s.Parts) {
				m.pairs[i] = append(m.pairs[i], x)
			}
		}
	}
	return m
}

// told: what there is now; the model goes on.
func (m *model) told() state {
	s := state{states: slices.Clone(m.states), slots: slices.Clone(m.slots[1:]), faults: m.faults, stamp: m.stamp, epoch: m.epoch, at: slices.Clone(m.at)}
	for i := m.top; i != 0; i = m.next[i] {
		s.free = append(s.free, i)
	}
	for _, h := range m.heads {
		var list []int
		var sets [][]int
		for m.inUse(h) && len(list) < len(s.slots) {
			list, sets = append(list, h), append(sets, m.sets[h])
			h = m.slots[h>>40].Link
		}
		s.versions, s.sets = append(s.versions, list), append(s.sets, sets)
	}
	for _, list := range m.waits {
		var handles []int
		for _, x := range list {
			handles = append(handles, x.handle)
		}
		s.waiting = append(s.waiting, handles)
	}
	return s
}

// isHandle tells whether h is a handle of a slot of the pool.
func (m *model) isHandle(h int) bool {
	return h > 0 && h>>40 >= 1 && h>>40 < len(m.slots) && h%2 == 1
}

func (m *model) inUse(h int) bool { return m.isHandle(h) && m.slots[h>>40].Gen == h%(1<<40) }

// doing: a call that is being done by a worker; step asks for its next line.
type doing struct {
	*model
	k    int
	step func()
}

func (d doing) take(x api.Node, link int) (int, api.Errno) {
	for {
		d.step()
		top, tag := d.top, d.tag
		if top == 0 {
			return 0, 102
		}
		d.step()
		below := d.next[top]
		d.step()
		if d.top == top && d.tag == tag {
			d.top, d.tag = below, tag+1
			d.slots[top] = api.Slot{Gen: d.slots[top].Gen + 1, Node: x, Link: link}
			return word(top, d.slots[top].Gen), 0
		}
	}
}

// given: a slot that was given back.
func given(gen int) api.Slot {
	const q = -7777777
	return api.Slot{Gen: gen, Node: api.Node{A: q, B: q, C: q, D: q}, Mark: q, Link: q}
}

func (d doing) give(h int) api.Errno {
	d.step()
	if !d.isHandle(h) {
		return 103
	}
	if !d.inUse(h) {
		return 104
	}
	i := h >> 40
	d.slots[i] = given(h%(1<<40) + 1)
	for {
		d.step()
		top, tag := d.top, d.tag
		d.step()
		d.next[i] = top
		d.step()
		if d.top == top && d.tag == tag {
			d.top, d.tag = i, tag+1
			return 0
		}
	}
}

// meet is a line: the slot of a handle.
func (d doing) meet(h int) (*api.Slot, api.Errno) {
	d.step()
	if !d.isHandle(h) {
		return nil, 103
	}
	if !d.inUse(h) {
		d.faults++
		return nil, 104
	}
	return &d.slots[h>>40], 0
}

// seen: a node of a tree that was read, and its span.
type seen struct {
	h           int
	x           api.Node
	first, last int
}

func (n seen) isLeaf() bool { return n.x.A == 0 }

// middle: where the upper half begins.
func (n seen) middle() int { return n.first + (n.last-n.first+1)/2 }

// isNode: four numbers that can be a node's, and the span that they tell.
func isNode(x api.Node) (int, int, bool) {
	if x.A <= 0 {
		return x.B, x.B, x.A == 0 && isKey(x.B) && x.D == 1
	}
	first, place := (x.A-1)/64, (x.A-1)%64
	if place > 31 || !isKey(first) || first%(2<<place) != 0 {
		return 0, 0, false
	}
	return first, first + 2<<place - 1, true
}

// read reads a node, whose span must be within these keys.
func (d doing) read(h, lo, hi int) (seen, api.Errno) {
	s, err := d.meet(h)
	if err != 0 {
		return seen{}, err
	}
	first, last, ok := isNode(s.Node)
	if !ok || first < lo || last > hi {
		return seen{}, 121
	}
	return seen{h, s.Node, first, last}, 0
}

// down: the way, and where it ends.
func (d doing) down(root, key int) ([]seen, seen, api.Errno) {
	var way []seen
	n, err := d.read(root, 0, mostKey)
	for err == 0 && !n.isLeaf() && n.first <= key && key <= n.last {
		way = append(way, n)
		if key < n.middle() {
			n, err = d.read(n.x.B, n.first, n.middle()-1)
		} else {
			n, err = d.read(n.x.C, n.middle(), n.last)
		}
	}
	return way, n, err
}

func (d doing) find(root, key int) (int, bool, api.Errno) {
	if root == 0 {
		d.step()
		return 0, false, 0
	}
	_, n, err := d.down(root, key)
	if err != 0 || !n.isLeaf() || n.x.B != key {
		return 0, false, err
	}
	return n.x.C, true, 0
}

// join: the inner node of a new leaf and of the node at which the way ended.
func join(leaf, key int, n seen) api.Node {
	p := 31
	for key>>p&1 == n.first>>p&1 {
		p--
	}
	x := api.Node{A: (key-key%(2<<p))*64 + p + 1, B: leaf, C: n.h, D: n.x.D + 1}
	if key > n.first {
		x.B, x.C = x.C, x.B
	}
	return x
}

// making: an edit that is being made.
type making struct {
	doing
	e   api.Edit
	err api.Errno
}

func (m *making) node(x api.Node) {
	if m.err == 0 {
		var h int
		if h, m.err = m.take(x, 0); m.err == 0 {
			m.e.Root = h
			m.e.Made = append(m.e.Made, h)
		}
	}
}

// climb makes a way anew, from below.
func (m *making) climb(way []seen, key, more int) {
	for _, n := range slices.Backward(way) {
		x := n.x
		x.D += more
		if key < n.middle() {
			x.B = m.e.Root
		} else {
			x.C = m.e.Root
		}
		m.e.Gone = append(m.e.Gone, n.h)
		m.node(x)
	}
}

func (m *making) end() (api.Edit, api.Errno) {
	if m.err != 0 {
		for _, h := range slices.Backward(m.e.Made) {
			m.give(h)
		}
		return api.Edit{}, m.err
	}
	return m.e, 0
}

func (d doing) put(root, key, value int) (api.Edit, api.Errno) {
	m := making{doing: d}
	leaf := api.Node{B: key, C: value, D: 1}
	if root == 0 {
		m.node(leaf)
		return m.end()
	}
	way, n, err := d.down(root, key)
	if err != 0 {
		return api.Edit{}, err
	}
	switch isKeys := n.isLeaf() && n.x.B == key; {
	case isKeys && n.x.C == value:
		return api.Edit{Root: root, Old: value, Had: true}, 0
	case isKeys:
		m.e = api.Edit{Old: n.x.C, Had: true, Gone: []int{n.h}}
		m.node(leaf)
		m.climb(way, key, 0)
	default:
		m.node(leaf)
		m.node(join(m.e.Root, key, n))
		m.climb(way, key, 1)
	}
	return m.end()
}

func (d doing) drop(root, key int) (api.Edit, api.Errno) {
	if root == 0 {
		d.step()
		return api.Edit{}, 122
	}
	way, n, err := d.down(root, key)
	if err != 0 {
		return api.Edit{}, err
	}
	if !n.isLeaf() || n.x.B != key {
		return api.Edit{}, 122
	}
	m := making{doing: d, e: api.Edit{Old: n.x.C, Had: true, Gone: []int{n.h}}}
	if len(way) > 0 {
		above := way[len(way)-1]
		m.e.Gone = append(m.e.Gone, above.h)
		m.e.Root = above.x.C
		if key >= above.middle() {
			m.e.Root = above.x.B
		}
		m.climb(way[:len(way)-1], key, -1)
	}
	return m.end()
}

// undo gives handles back, the last one first, till one can't be.
func (d doing) undo(list []int) {
	if len(list) == 0 {
		d.step()
		return
	}
	for _, h := range slices.Backward(list) {
		if d.give(h) != 0 {
			return
		}
	}
}

func (d doing) mark(h int) (int, api.Errno) {
	s, err := d.meet(h)
	if err != 0 {
		return 0, err
	}
	return s.Mark, 0
}

func (d doing) settle(h int) api.Errno {
	stamp, err := d.mark(h) // 1
	if err != 0 || stamp != 0 {
		return err
	}
	d.step() // 2
	now := d.stamp
	s, err := d.meet(h) // 3
	if err != 0 {
		return err
	}
	if s.Mark == 0 {
		s.Mark = now
		return 0
	}
	_, err = d.mark(h) // 4
	return err
}

func (d doing) first(part int, x api.Node) (int, api.Errno) {
	h, err := d.take(x, 0)
	if err != 0 {
		return 0, err
	}
	s, err := d.meet(h)
	if err != 0 {
		return 0, err
	}
	s.Mark = 1
	d.step()
	if d.heads[part] != 0 {
		d.give(h)
		return 0, 142
	}
	d.heads[part] = h
	return h, 0
}

func (d doing) newest(part int) (int, api.Errno) {
	d.step()
	h := d.heads[part]
	d.tops[d.k] = d.steps
	if h == 0 {
		return 0, 141
	}
	return h, d.settle(h)
}

func (d doing) push(part, old int, x api.Node, set []int) (bool, api.Errno) {
	h, err := d.take(x, old)
	if err != 0 {
		return false, err
	}
	d.sets[h] = set
	d.step()
	d.rounds = append(d.rounds, round{d.k, part, d.tops[d.k], d.steps, d.heads[part] == old})
	if d.heads[part] != old {
		d.give(h)
		return false, 0
	}
	d.heads[part] = h
	return true, d.settle(h)
}

// come is Ready, or Wait.
func (d doing) come(n int, waits bool) api.Errno {
	for {
		d.step() // 1
		switch {
		case d.states[n] == 2:
			return 0
		case d.states[n] == 1 && !waits:
			return 152
		case d.states[n] == 1:
			continue
		}
		d.step() // 2
		if d.states[n] == 0 {
			d.states[n] = 1
			return d.load(n)
		}
	}
}

func (d doing) load(n int) api.Errno {
	ends := func(state int, err api.Errno) api.Errno {
		d.step() // 3
		d.states[n] = state
		return err
	}
	if d.fails[n] > 0 {
		d.fails[n]--
		return ends(0, 153)
	}
	root, made := 0, []int(nil)
	back := func() {
		for _, h := range slices.Backward(made) {
			d.give(h)
		}
	}
	for _, x := range d.pairs[n] {
		e, err := d.put(root, x.Key, x.Value)
		if err != 0 {
			back()
			return ends(0, err)
		}
		root = e.Root
		made = append(made, e.Made...)
		for _, h := range e.Gone {
			d.give(h)
			made = slices.DeleteFunc(made, func(g int) bool { return g == h })
		}
	}
	if _, err := d.first(n, api.Node{A: root, B: 1}); err != 0 {
		back()
		return ends(0, err)
	}
	return ends(2, 0)
}

// isWorker is what each call of an epoch begins with: whether the worker is one of it.
func (d doing) isWorker() bool {
	d.step()
	return d.k < len(d.at)
}

func (d doing) enter() api.Errno {
	if !d.isWorker() {
		return 111
	}
	if d.depth[d.k] == 0 {
		now := d.epoch
		d.step()
		d.at[d.k] = now
	}
	d.depth[d.k]++
	return 0
}

func (d doing) leave() api.Errno {
	if !d.isWorker() {
		return 111
	}
	if d.depth[d.k] == 0 {
		return 112
	}
	if d.depth[d.k]--; d.depth[d.k] == 0 {
		d.at[d.k] = 0
	}
	return 0
}

func (d doing) advance() bool {
	if !d.isWorker() {
		return false
	}
	now := d.epoch
	for j := range d.at {
		d.step()
		if d.at[j] != 0 && d.at[j] != now {
			return false
		}
	}
	d.step()
	if d.epoch != now {
		return false
	}
	d.epoch++
	return true
}

func (d doing) collect() (int, api.Errno) {
	if !d.isWorker() {
		return 0, 111
	}
	now, list, n := d.epoch, &d.waits[d.k], 0
	for {
		i := slices.IndexFunc(*list, func(x waits) bool { return x.epoch+2 <= now })
		if i < 0 {
			return n, 0
		}
		d.give((*list)[i].handle)
		*list = slices.Delete(slices.Clone(*list), i, i+1)
		n++
	}
}

// edited: what a write's change came to.
type edited struct {
	api.Edit
	changes bool
	many    int
}

func (d doing) refuse() (api.Told, api.Errno) {
	d.step()
	return api.Told{}, 161
}

func (d doing) partGet(n, key int) (api.Told, api.Errno) {
	if err := d.come(n, false); err != 0 {
		return api.Told{}, err
	}
	if err := d.enter(); err != 0 {
		return api.Told{}, err
	}
	told, err := func() (api.Told, api.Errno) {
		h, err := d.newest(n)
		if err != 0 {
			return api.Told{}, err
		}
		x, err := d.meet(h)
		if err != 0 {
			return api.Told{}, err
		}
		number := x.Node.B
		value, had, err := d.find(x.Node.A, key)
		if err != 0 {
			return api.Told{}, err
		}
		return api.Told{Value: value, Had: had, Number: number}, 0
	}()
	d.leave()
	return told, err
}

func (d doing) partWrite(n int, makes func(root int) (edited, api.Errno)) (api.Told, api.Errno) {
	if err := d.come(n, true); err != 0 {
		return api.Told{}, err
	}
	if err := d.enter(); err != 0 {
		return api.Told{}, err
	}
	for {
		told, done, err := d.oneRound(n, makes)
		if done || err != 0 {
			d.leave()
			return told, err
		}
	}
}

func (d doing) oneRound(n int, makes func(root int) (edited, api.Errno)) (api.Told, bool, api.Errno) {
	h, err := d.newest(n)
	if err != 0 {
		return api.Told{}, false, err
	}
	x, err := d.meet(h)
	if err != 0 {
		return api.Told{}, false, err
	}
	root, number := x.Node.A, x.Node.B
	e, err := makes(root)
	if err != 0 {
		return api.Told{}, false, err
	}
	told := api.Told{Value: e.Old, Had: e.Had, Number: number, Many: e.many}
	if !e.changes {
		return told, true, 0
	}
	ok, err := d.push(n, h, api.Node{A: e.Root, B: number + 1}, e.Gone)
	if err != 0 {
		if len(e.Made) > 0 {
			d.undo(e.Made)
		}
		return api.Told{}, false, err
	}
	if !ok {
		d.undo(e.Made)
		return api.Told{}, false, 0
	}
	told.New, told.Number = true, number+1
	return told, true, 0
}

// manyOf: the change of a Many.
func (d doing) manyOf(root int, list []api.Pair) (edited, api.Errno) {
	all := edited{Edit: api.Edit{Root: root}}
	for _, x := range list {
		e, err := d.put(all.Root, x.Key, x.Value)
		if err != 0 {
			if len(all.Made) > 0 {
				d.undo(all.Made)
			}
			return edited{}, err
		}
		if e.Root != all.Root {
			all.many++
		}
		all.Root = e.Root
		for _, h := range e.Gone {
			i := slices.Index(all.Made, h)
			if i < 0 {
				all.Gone = append(all.Gone, h)
				continue
			}
			d.give(h)
			all.Made = slices.Delete(all.Made, i, i+1)
		}
		all.Made = append(all.Made, e.Made...)
	}
	all.changes = all.Root != root
	return all, 0
}

// ofPart does a call of a part.
func (d doing) ofPart(n int, c api.Call) (api.Told, api.Errno) {
	keys := []int{c.A}
	if c.Kind == 5 {
		keys = nil
		for _, x := range c.Pairs {
			keys = append(keys, x.Key)
		}
	}
	for _, key := range keys {
		if !isOf(key, n, len(d.states)) {
			return d.refuse()
		}
	}
	if c.Kind == 1 {
		return d.partGet(n, c.A)
	}
	return d.partWrite(n, func(root int) (edited, api.Errno) {
		switch c.Kind {
		case 2:
			e, err := d.put(root, c.A, c.B)
			return edited{e, e.Root != root, 0}, err
		case 3:
			e, err := d.drop(root, c.A)
			if err == 122 {
				return edited{}, 0
			}
			return edited{e, true, 0}, err
		case 4:
			value, had, err := d.find(root, c.A)
			switch {
			case err != 0:
				return edited{}, err
			case !had:
				return edited{}, 122
			case value != c.B:
				return edited{}, 162
			case c.B == c.C:
				return edited{Edit: api.Edit{Old: c.B, Had: true}}, 0
			}
			e, err := d.put(root, c.A, c.C)
			return edited{e, e.Root != root, 0}, err
		}
		return d.manyOf(root, c.Pairs)
	})
}

// full: an answer with all that is told.
func full(t api.Told, err api.Errno) api.Answer {
	a := api.Answer{Ok: t.New, N: t.Value, M: t.Number, Err: err}
	if t.Had || t.Many != 0 {
		a.Ints = []int{bit(t.Had), t.Many}
	}
	return a
}

// played: an answer as Play tells it.
func played(kind int, t api.Told, err api.Errno) api.Answer {
	switch {
	case err != 0:
		return api.Answer{Err: err}
	case kind == 1:
		return api.Answer{Ok: t.Had, N: t.Value, M: t.Number}
	case kind == 5:
		return api.Answer{Ok: t.New, N: t.Many, M: t.Number}
	}
	return api.Answer{Ok: t.New, N: t.Value, M: t.Number, Ints: []int{bit(t.Had)}}
}

func bit(b bool) int {
	if b {
		return 1
	}
	return 0
}

// went: an answer that tells a number.
func went(n int, err api.Errno) api.Answer { return api.Answer{Ok: err == 0, N: n, Err: err} }

// play does a call of Play's; by its name it tells all that is told.
func (d doing) play(c api.Call, named bool) api.Answer {
	switch c.Kind {
	case 1, 2, 3, 4, 5:
		var told api.Told
		var err api.Errno
		if n := target(c, len(d.states)); n < 0 {
			told, err = d.refuse()
		} else {
			told, err = d.ofPart(n, c)
		}
		if named {
			return full(told, err)
		}
		return played(c.Kind, told, err)
	case 6:
		return api.Answer{Ok: d.advance()}
	case 7:
		return went(d.collect())
	case 8:
		return went(0, d.enter())
	case 9:
		return went(0, d.leave())
	}
	d.step()
	return api.Answer{Err: 160}
}

// named does a call by its name.
func (d doing) named(c api.Call) api.Answer {
	switch c.Kind {
	case kindSlot:
		return went(d.take(api.Node{A: c.A, B: c.B, C: c.C, D: c.Pairs[0].Key}, 0))
	case kindGive:
		return went(0, d.give(c.A))
	case kindFirst:
		return went(d.first(c.A, api.Node{A: c.B, B: c.C}))
	case kindPush:
		h, err := d.newest(c.A)
		if err != 0 {
			return went(0, err)
		}
		ok, err := d.push(c.A, h, api.Node{A: c.B, B: c.C}, nil)
		return api.Answer{Ok: ok, Err: err}
	case kindRetire:
		if !d.isWorker() {
			return went(0, 111)
		}
		d.waits[d.k] = append(slices.Clone(d.waits[d.k]), waits{c.A, d.epoch})
		return went(0, 0)
	case kindTick:
		return went(0, d.tick())
	case kindReady:
		return went(0, d.come(c.A, false))
	}
	if c.Kind >= kindOf {
		n := (c.Kind - kindOf) / 10
		c.Kind = (c.Kind - kindOf) % 10
		return full(d.ofPart(n, c))
	}
	return d.play(c, true)
}

// tick: the one lease is taken, and let go.
func (d doing) tick() api.Errno {
	d.step()
	if d.leased != 0 {
		return 132
	}
	d.leased = 1
	d.step()
	t := d.stamp
	for {
		d.step()
		d.leased = t + 1
		d.step()
		if d.stamp == t {
			break
		}
		t = d.stamp
	}
	d.step()
	if d.stamp == t {
		d.stamp++
	}
	d.step()
	d.leased = 0
	return 0
}

// cutOff: a call of the model's is let go.
type cutOff struct{}

// begin tells a call line by line.
func (m *model) begin(named bool) func(k int, c api.Call) line {
	return func(k int, c api.Call) line {
		var a api.Answer
		next, stop := iter.Pull(func(yield func(int) bool) {
			defer func() {
				if r := recover(); r != nil && r != any(cutOff{}) {
					panic(r)
				}
			}()
			d := doing{m, k, func() {
				if !yield(0) {
					panic(cutOff{})
				}
			}}
			if named {
				a = d.named(c)
			} else {
				a = d.play(c, false)
			}
		})
		m.stops = append(m.stops, stop)
		_, more := next() // up to its first line
		return func() (api.Answer, bool) {
			m.steps++
			if more {
				_, more = next()
			}
			if m.films {
				m.film = append(m.film, m.told())
			}
			return a, !more
		}
	}
}

// run does a case, line by line.
func (m *model) run(c api.Case, named bool) (api.Run, []pick) {
	run, picks := modelRun(c, m.begin(named))
	for _, stop := range m.stops {
		stop()
	}
	m.stops = nil
	return run, picks
}

// alone does a named call of worker 0 with all its lines at once; Own tells how many.
func (m *model) alone(c api.Call) api.Answer {
	lines := 0
	a := doing{m, 0, func() { lines++; m.steps++ }}.named(c)
	a.Own = lines
	return a
}
