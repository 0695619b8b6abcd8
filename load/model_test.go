package load_test

import (
	"iter"
	"math"
	"slices"

	"skein/api"
)

// The calls of Play, by their names.
func ready(part int) api.Call { return api.Call{Kind: 1, A: part} }
func wait(part int) api.Call  { return api.Call{Kind: 2, A: part} }
func ask(part int) api.Call   { return api.Call{Kind: 3, A: part} }
func tell(part int) api.Call  { return api.Call{Kind: 4, A: part} }

// Calls that Play hasn't: a slot is taken, or given back; a chain gets a first version.
const (
	kindSlot = iota + 101
	kindGive
	kindFirst
)

func slot(a int) api.Call               { return api.Call{Kind: kindSlot, A: a} }
func give(h int) api.Call               { return api.Call{Kind: kindGive, A: h} }
func first(part, a, b int) api.Call     { return api.Call{Kind: kindFirst, A: part, B: a, C: b} }
func work(calls ...[]api.Call) api.Case { return api.Case{Work: calls} }

// word: a slot and a generation in one.
func word(slot, gen int) int { return slot<<40 + gen }

const (
	lowest    = math.MinInt
	highest   = math.MaxInt
	mostKey   = 1<<32 - 1
	mostParts = 64
	mostSlots = 4096
)

// pairs: a key and its value, by turns.
func pairs(numbers ...int) []api.Pair {
	var list []api.Pair
	for i := 0; i < len(numbers); i += 2 {
		list = append(list, api.Pair{Key: numbers[i], Value: numbers[i+1]})
	}
	return list
}

// upTo: 1 to n.
func upTo(n int) []int {
	list := make([]int, n)
	for i := range list {
		list[i] = i + 1
	}
	return list
}

// least: the least key of a part.
func least(part, parts int) int {
	key := part << 32 / parts
	for key*parts < part<<32 {
		key++
	}
	return key
}

// pairsOf: the pairs of a source whose keys are a part's, in their order.
func pairsOf(source []api.Pair, part, parts int) []api.Pair {
	var list []api.Pair
	if parts > mostParts {
		return nil
	}
	for _, x := range source {
		if x.Key >= least(part, parts) && x.Key < least(part+1, parts) {
			list = append(list, x)
		}
	}
	return list
}

// holds: what a part holds of these pairs, by key.
func holds(list []api.Pair) []api.Pair {
	last := map[int]int{}
	for _, x := range list {
		last[x.Key] = x.Value
	}
	var all []api.Pair
	for key, value := range last {
		all = append(all, api.Pair{Key: key, Value: value})
	}
	slices.SortFunc(all, func(a, b api.Pair) int { return a.Key - b.Key })
	return all
}

// slotsFor: how many slots a part takes that holds so many keys.
func slotsFor(keys int) int { return max(1, 2*keys) }

// state: all that a Load, its pool and its chains tell of themselves while nobody does a call.
type state struct {
	states   []int
	versions [][]int
	slots    []api.Slot
	free     []int
	faults   int
}

// newState: that of a new one.
func newState(parts, slots int) state {
	return state{states: make([]int, parts), versions: make([][]int, parts), slots: make([]api.Slot, slots), free: upTo(slots)}
}

func (s state) same(o state) bool {
	return slices.Equal(s.states, o.states) && sameLists(s.versions, o.versions) && slices.Equal(s.slots, o.slots) && slices.Equal(s.free, o.free) && s.faults == o.faults
}

// sameLists holds lists against each other; a nil list and an empty one are the same.
func sameLists(a, b [][]int) bool { return slices.EqualFunc(a, b, slices.Equal) }

func (s state) clone() state {
	s.states, s.slots, s.free = slices.Clone(s.states), slices.Clone(s.slots), slices.Clone(s.free)
	s.versions = slices.Clone(s.versions)
	return s
}

// rows: what a Play tells at the end.
func (s state) rows() [][]int {
	rows := [][]int{slices.Clone(s.states), {len(s.free), s.faults}}
	for _, list := range s.versions {
		var row []int
		for _, h := range list {
			row = append(row, h>>40)
		}
		rows = append(rows, row)
	}
	return rows
}

// used: how many slots are in use.
func (s state) used() int {
	n := 0
	for _, x := range s.slots {
		n += x.Gen % 2
	}
	return n
}

// model: a pool, chains and the loading of their parts, as the chapters' lines say them.
type model struct {
	slots    []api.Slot // that of 0 is idle
	top, tag int        // of the pool's pile
	next     []int
	faults   int
	heads    []int
	states   []int
	fails    []int
	pairs    [][]api.Pair
	stops    []func()
	films    bool
	film     []state // behind each step, if it films
}

func newModel(s api.Setup) *model {
	m := &model{
		slots: make([]api.Slot, s.Slots+1), top: 1, next: make([]int, s.Slots+1),
		heads: make([]int, s.Parts), states: make([]int, s.Parts), fails: make([]int, s.Parts), pairs: make([][]api.Pair, s.Parts),
	}
	for i := 1; i < s.Slots; i++ {
		m.next[i] = i + 1
	}
	for i := range s.Parts {
		m.fails[i] = s.Fails
		m.pairs[i] = pairsOf(s.Source, i, s.Parts)
	}
	return m
}

// told: what there is now; the model goes on.
func (m *model) told() state {
	s := state{states: slices.Clone(m.states), slots: slices.Clone(m.slots[1:]), faults: m.faults}
	for i := m.top; i != 0; i = m.next[i] {
		s.free = append(s.free, i)
	}
	for _, h := range m.heads {
		var list []int
		for m.inUse(h) {
			list = append(list, h)
			h = m.slots[h>>40].Link
		}
		s.versions = append(s.versions, list)
	}
	return s
}

// isHandle tells whether h is a handle of a slot of the pool.
func (m *model) isHandle(h int) bool {
	return h > 0 && h>>40 >= 1 && h>>40 < len(m.slots) && h%2 == 1
}

func (m *model) inUse(h int) bool { return m.isHandle(h) && m.slots[h>>40].Gen == h%(1<<40) }

// doing: a call that is being done; step asks for its next line.
type doing struct {
	*model
	step func()
}

func (d doing) take(x api.Node) (int, api.Errno) {
	for {
		d.step()
		top, tag := d.top, d.tag
		if top == 0 {
			return 0, 102
		}
		d.step()
		below := d.next[top]
		d.step()
		if d.top == top && d.tag == tag {
			d.top, d.tag = below, tag+1
			d.slots[top] = api.Slot{Gen: d.slots[top].Gen + 1, Node: x}
			return word(top, d.slots[top].Gen), 0
		}
	}
}

// given: a slot that was given back.
func given(gen int) api.Slot {
	const q = -7777777
	return api.Slot{Gen: gen, Node: api.Node{A: q, B: q, C: q, D: q}, Mark: q, Link: q}
}

func (d doing) give(h int) api.Errno {
	d.step()
	if !d.isHandle(h) {
		return 103
	}
	if !d.inUse(h) {
		return 104
	}
	i := h >> 40
	d.slots[i] = given(h%(1<<40) + 1)
	for {
		d.step()
		top, tag := d.top, d.tag
		d.step()
		d.next[i] = top
		d.step()
		if d.top == top && d.tag == tag {
			d.top, d.tag = i, tag+1
			return 0
		}
	}
}

// meet is a line: the slot of a handle.
func (d doing) meet(h int) (*api.Slot, api.Errno) {
	d.step()
	if !d.isHandle(h) {
		return nil, 103
	}
	if !d.inUse(h) {
		d.faults++
		return nil, 104
	}
	return &d.slots[h>>40], 0
}

// seen: a node that was read, and its span.
type seen struct {
	h           int
	x           api.Node
	first, last int
}

func (n seen) isLeaf() bool { return n.x.A == 0 }

// middle: where the upper half begins.
func (n seen) middle() int { return n.first + (n.last-n.first+1)/2 }

// read reads a node, which a trie made.
func (d doing) read(h int) (seen, api.Errno) {
	s, err := d.meet(h)
	if err != 0 {
		return seen{}, err
	}
	n := seen{h, s.Node, s.Node.B, s.Node.B}
	if !n.isLeaf() {
		n.first = (n.x.A - 1) / 64
		n.last = n.first + 2<<((n.x.A-1)%64) - 1
	}
	return n, 0
}

// down: the way, and where it ends.
func (d doing) down(root, key int) ([]seen, seen, api.Errno) {
	var way []seen
	n, err := d.read(root)
	for err == 0 && !n.isLeaf() && n.first <= key && key <= n.last {
		way = append(way, n)
		below := n.x.B
		if key >= n.middle() {
			below = n.x.C
		}
		n, err = d.read(below)
	}
	return way, n, err
}

// join: the inner node of a new leaf and of the node at which the way ended.
func join(leaf, key int, n seen) api.Node {
	p := 31
	for key>>p&1 == n.first>>p&1 {
		p--
	}
	x := api.Node{A: (key-key%(2<<p))*64 + p + 1, B: leaf, C: n.h, D: n.x.D + 1}
	if key > n.first {
		x.B, x.C = x.C, x.B
	}
	return x
}

func (d doing) put(root, key, value int) (api.Edit, api.Errno) {
	var e api.Edit
	var err api.Errno
	makes := func(x api.Node) {
		if err == 0 {
			if e.Root, err = d.take(x); err == 0 {
				e.Made = append(e.Made, e.Root)
			}
		}
	}
	leaf := api.Node{B: key, C: value, D: 1}
	if root == 0 {
		makes(leaf)
		return e, err
	}
	way, n, bad := d.down(root, key)
	if bad != 0 {
		return api.Edit{}, bad
	}
	more := 0
	switch isKeys := n.isLeaf() && n.x.B == key; {
	case isKeys && n.x.C == value:
		return api.Edit{Root: root}, 0
	case isKeys:
		e.Gone = append(e.Gone, n.h)
		makes(leaf)
	default:
		more = 1
		makes(leaf)
		makes(join(e.Root, key, n))
	}
	for i := len(way) - 1; i >= 0; i-- {
		x := way[i].x
		x.D += more
		if key < way[i].middle() {
			x.B = e.Root
		} else {
			x.C = e.Root
		}
		e.Gone = append(e.Gone, way[i].h)
		makes(x)
	}
	if err != 0 {
		d.back(e.Made)
		return api.Edit{}, err
	}
	return e, 0
}

// back gives handles back, the last one first.
func (d doing) back(list []int) {
	for i := len(list) - 1; i >= 0; i-- {
		d.give(list[i])
	}
}

func (d doing) first(part int, x api.Node) (int, api.Errno) {
	h, err := d.take(x)
	if err != 0 {
		return 0, err
	}
	s, err := d.meet(h)
	if err != 0 {
		return 0, err
	}
	s.Mark = 1
	d.step()
	if d.heads[part] != 0 {
		d.give(h)
		return 0, 142
	}
	d.heads[part] = h
	return h, 0
}

func (d doing) hasPart(n int) bool { return n >= 0 && n < len(d.states) }

// come is Ready, or Wait.
func (d doing) come(n int, waits bool) api.Errno {
	if !d.hasPart(n) {
		d.step()
		return 151
	}
	for {
		d.step() // 1
		switch {
		case d.states[n] == 2:
			return 0
		case d.states[n] == 1 && !waits:
			return 152
		case d.states[n] == 1:
			continue
		}
		d.step() // 2
		if d.states[n] == 0 {
			d.states[n] = 1
			return d.load(n)
		}
	}
}

func (d doing) load(n int) api.Errno {
	ends := func(state int, err api.Errno) api.Errno {
		d.step() // 3
		d.states[n] = state
		return err
	}
	if d.fails[n] > 0 {
		d.fails[n]--
		return ends(0, 153)
	}
	root, made := 0, []int(nil)
	for _, x := range d.pairs[n] {
		e, err := d.put(root, x.Key, x.Value)
		if err != 0 {
			d.back(made)
			return ends(0, err)
		}
		root = e.Root
		made = append(made, e.Made...)
		for _, h := range e.Gone {
			d.give(h)
			made = slices.DeleteFunc(made, func(g int) bool { return g == h })
		}
	}
	if _, err := d.first(n, api.Node{A: root, B: 1}); err != 0 {
		d.back(made)
		return ends(0, err)
	}
	return ends(2, 0)
}

// told: an answer that tells a number.
func told(n int, err api.Errno) api.Answer { return api.Answer{Ok: err == 0, N: n, Err: err} }

func (d doing) tell(n int) api.Answer {
	if !d.hasPart(n) {
		d.step()
		return told(0, 151)
	}
	d.step()
	h := d.heads[n]
	if h == 0 {
		return told(0, 141)
	}
	if _, err := d.meet(h); err != 0 { // its stamp: that of a First is there
		return told(0, err)
	}
	x, err := d.meet(h)
	if err != 0 {
		return told(0, err)
	}
	a := told(x.Node.B, 0)
	if err := d.walk(x.Node.A, &a.Pairs); err != 0 {
		return told(0, err)
	}
	return a
}

func (d doing) walk(h int, list *[]api.Pair) api.Errno {
	if h == 0 {
		return 0
	}
	n, err := d.read(h)
	if err != 0 {
		return err
	}
	if n.isLeaf() {
		*list = append(*list, api.Pair{Key: n.x.B, Value: n.x.C})
		return 0
	}
	if err := d.walk(n.x.B, list); err != 0 {
		return err
	}
	return d.walk(n.x.C, list)
}

// do does a call by its name.
func (d doing) do(c api.Call) api.Answer {
	switch c.Kind {
	case 1, 2:
		return told(0, d.come(c.A, c.Kind == 2))
	case 3:
		d.step()
		if !d.hasPart(c.A) {
			return told(0, 151)
		}
		return told(d.states[c.A], 0)
	case 4:
		return d.tell(c.A)
	case kindSlot:
		return told(d.take(api.Node{A: c.A}))
	case kindGive:
		return told(0, d.give(c.A))
	case kindFirst:
		return told(d.first(c.A, api.Node{A: c.B, B: c.C}))
	}
	d.step()
	return told(0, 150)
}

// cutOff: a call of the model's is let go.
type cutOff struct{}

// begin tells a call line by line.
func (m *model) begin(_ int, c api.Call) line {
	var a api.Answer
	next, stop := iter.Pull(func(yield func(int) bool) {
		defer func() {
			if r := recover(); r != nil && r != any(cutOff{}) {
				panic(r)
			}
		}()
		a = doing{m, func() {
			if !yield(0) {
				panic(cutOff{})
			}
		}}.do(c)
	})
	m.stops = append(m.stops, stop)
	_, more := next() // up to its first line
	return func() (api.Answer, bool) {
		if more {
			_, more = next()
		}
		if m.films {
			m.film = append(m.film, m.told())
		}
		return a, !more
	}
}

// run does a case, line by line.
func (m *model) run(c api.Case) (api.Run, []pick) {
	run, picks := modelRun(c, m.begin)
	for _, stop := range m.stops {
		stop()
	}
	m.stops = nil
	return run, picks
}

// alone does a call with all its lines at once; Own tells how many.
func (m *model) alone(c api.Call) api.Answer {
	lines := 0
	a := doing{m, func() { lines++ }}.do(c)
	a.Own = lines
	return a
}
