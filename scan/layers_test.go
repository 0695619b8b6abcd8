package scan_test

import (
	"slices"

	"skein/api"
)

// The layers below the map, line by line, as their chapters say them.

type waits struct{ handle, epoch int }

// doing: a call that is being done by a worker; step asks for its next line.
type doing struct {
	*model
	k    int
	step func()
}

func (d doing) take(x api.Node, link int) (int, api.Errno) {
	for {
		d.step()
		top, tag := d.top, d.tag
		if top == 0 {
			return 0, 102
		}
		d.step()
		below := d.next[top]
		d.step()
		if d.top == top && d.tag == tag {
			d.top, d.tag = below, tag+1
			d.slots[top] = api.Slot{Gen: d.slots[top].Gen + 1, Node: x, Link: link}
			return word(top, d.slots[top].Gen), 0
		}
	}
}

// given: a slot that was given back.
func given(gen int) api.Slot {
	const q = -7777777
	return api.Slot{Gen: gen, Node: api.Node{A: q, B: q, C: q, D: q}, Mark: q, Link: q}
}

func (d doing) give(h int) api.Errno {
	d.step()
	if !d.isHandle(h) {
		return 103
	}
	if !d.inUse(h) {
		return 104
	}
	i := h >> 40
	d.slots[i] = given(h%(1<<40) + 1)
	for {
		d.step()
		top, tag := d.top, d.tag
		d.step()
		d.next[i] = top
		d.step()
		if d.top == top && d.tag == tag {
			d.top, d.tag = i, tag+1
			return 0
		}
	}
}

// meet is a line: the slot of a handle.
func (d doing) meet(h int) (*api.Slot, api.Errno) {
	d.step()
	if !d.isHandle(h) {
		return nil, 103
	}
	if !d.inUse(h) {
		d.faults++
		return nil, 104
	}
	return &d.slots[h>>40], 0
}

// seen: a node of a tree that was read, and its span.
type seen struct {
	h           int
	x           api.Node
	first, last int
}

func (n seen) isLeaf() bool { return n.x.A == 0 }

// middle: where the upper half begins.
func (n seen) middle() int { return n.first + (n.last-n.first+1)/2 }

// isNode: four numbers that can be a node's, and the span that they tell.
func isNode(x api.Node) (int, int, bool) {
	if x.A <= 0 {
		return x.B, x.B, x.A == 0 && isKey(x.B) && x.D == 1
	}
	first, place := (x.A-1)/64, (x.A-1)%64
	if place > 31 || !isKey(first) || first%(2<<place) != 0 {
		return 0, 0, false
	}
	return first, first + 2<<place - 1, true
}

// read reads a node, whose span must be within these keys.
func (d doing) read(h, lo, hi int) (seen, api.Errno) {
	s, err := d.meet(h)
	if err != 0 {
		return seen{}, err
	}
	first, last, ok := isNode(s.Node)
	if !ok || first < lo || last > hi {
		return seen{}, 121
	}
	return seen{h, s.Node, first, last}, 0
}

// down: the way, and where it ends.
func (d doing) down(root, key int) ([]seen, seen, api.Errno) {
	var way []seen
	n, err := d.read(root, 0, mostKey)
	for err == 0 && !n.isLeaf() && n.first <= key && key <= n.last {
		way = append(way, n)
		if key < n.middle() {
			n, err = d.read(n.x.B, n.first, n.middle()-1)
		} else {
			n, err = d.read(n.x.C, n.middle(), n.last)
		}
	}
	return way, n, err
}

func (d doing) find(root, key int) (int, bool, api.Errno) {
	if root == 0 {
		d.step()
		return 0, false, 0
	}
	_, n, err := d.down(root, key)
	if err != 0 || !n.isLeaf() || n.x.B != key {
		return 0, false, err
	}
	return n.x.C, true, 0
}

// join: the inner node of a new leaf and of the node at which the way ended.
func join(leaf, key int, n seen) api.Node {
	p := 31
	for key>>p&1 == n.first>>p&1 {
		p--
	}
	x := api.Node{A: (key-key%(2<<p))*64 + p + 1, B: leaf, C: n.h, D: n.x.D + 1}
	if key > n.first {
		x.B, x.C = x.C, x.B
	}
	return x
}

// making: an edit that is being made.
type making struct {
	doing
	e   api.Edit
	err api.Errno
}

func (m *making) node(x api.Node) {
	if m.err == 0 {
		var h int
		if h, m.err = m.take(x, 0); m.err == 0 {
			m.e.Root = h
			m.e.Made = append(m.e.Made, h)
		}
	}
}

// climb makes a way anew, from below.
func (m *making) climb(way []seen, key, more int) {
	for _, n := range slices.Backward(way) {
		x := n.x
		x.D += more
		if key < n.middle() {
			x.B = m.e.Root
		} else {
			x.C = m.e.Root
		}
		m.e.Gone = append(m.e.Gone, n.h)
		m.node(x)
	}
}

func (m *making) end() (api.Edit, api.Errno) {
	if m.err != 0 {
		for _, h := range slices.Backward(m.e.Made) {
			m.give(h)
		}
		return api.Edit{}, m.err
	}
	return m.e, 0
}

func (d doing) put(root, key, value int) (api.Edit, api.Errno) {
	m := making{doing: d}
	leaf := api.Node{B: key, C: value, D: 1}
	if root == 0 {
		m.node(leaf)
		return m.end()
	}
	way, n, err := d.down(root, key)
	if err != 0 {
		return api.Edit{}, err
	}
	switch isKeys := n.isLeaf() && n.x.B == key; {
	case isKeys && n.x.C == value:
		return api.Edit{Root: root, Old: value, Had: true}, 0
	case isKeys:
		m.e = api.Edit{Old: n.x.C, Had: true, Gone: []int{n.h}}
		m.node(leaf)
		m.climb(way, key, 0)
	default:
		m.node(leaf)
		m.node(join(m.e.Root, key, n))
		m.climb(way, key, 1)
	}
	return m.end()
}

func (d doing) drop(root, key int) (api.Edit, api.Errno) {
	if root == 0 {
		d.step()
		return api.Edit{}, 122
	}
	way, n, err := d.down(root, key)
	if err != 0 {
		return api.Edit{}, err
	}
	if !n.isLeaf() || n.x.B != key {
		return api.Edit{}, 122
	}
	m := making{doing: d, e: api.Edit{Old: n.x.C, Had: true, Gone: []int{n.h}}}
	if len(way) > 0 {
		above := way[len(way)-1]
		m.e.Gone = append(m.e.Gone, above.h)
		m.e.Root = above.x.C
		if key >= above.middle() {
			m.e.Root = above.x.B
		}
		m.climb(way[:len(way)-1], key, -1)
	}
	return m.end()
}

// undo gives handles back, the last one first, till one can't be.
func (d doing) undo(list []int) {
	if len(list) == 0 {
		d.step()
		return
	}
	for _, h := range slices.Backward(list) {
		if d.give(h) != 0 {
			return
		}
	}
}

func (d doing) mark(h int) (int, api.Errno) {
	s, err := d.meet(h)
	if err != 0 {
		return 0, err
	}
	return s.Mark, 0
}

func (d doing) settle(h int) (int, api.Errno) {
	stamp, err := d.mark(h) // 1
	if err != 0 || stamp != 0 {
		return stamp, err
	}
	d.step() // 2
	now := d.stamp
	s, err := d.meet(h) // 3
	if err != 0 {
		return 0, err
	}
	if s.Mark == 0 {
		s.Mark = now
		return now, 0
	}
	return d.mark(h) // 4
}

func (d doing) first(part int, x api.Node) (int, api.Errno) {
	h, err := d.take(x, 0)
	if err != 0 {
		return 0, err
	}
	s, err := d.meet(h)
	if err != 0 {
		return 0, err
	}
	if s.Mark == 0 {
		s.Mark = 1
	}
	d.step()
	if d.heads[part] != 0 {
		d.give(h)
		return 0, 142
	}
	d.heads[part] = h
	return h, 0
}

func (d doing) newest(part int) (int, int, api.Errno) {
	d.step()
	h := d.heads[part]
	if h == 0 {
		return 0, 0, 141
	}
	stamp, err := d.settle(h)
	if err != 0 {
		return 0, 0, err
	}
	return h, stamp, 0
}

func (d doing) push(part, old int, x api.Node, set []int) (bool, api.Errno) {
	h, err := d.take(x, old)
	if err != 0 {
		return false, err
	}
	d.sets[h] = set
	d.step()
	if d.heads[part] != old {
		d.give(h)
		return false, 0
	}
	d.heads[part] = h
	if _, err = d.settle(h); err != 0 {
		return false, err
	}
	return true, 0
}

// shown is At.
func (d doing) shown(part, stamp int) (int, api.Errno) {
	h, is, err := d.newest(part)
	for err == 0 && is > stamp {
		var s *api.Slot
		if s, err = d.meet(h); err != 0 {
			break
		}
		if h = s.Link; h == 0 {
			return 0, 141
		}
		is, err = d.mark(h)
	}
	if err != 0 {
		return 0, err
	}
	return h, 0
}

func (d doing) cut(h int) (int, []int, api.Errno) {
	s, err := d.meet(h)
	if err != 0 || s.Link == 0 {
		return 0, nil, err
	}
	y, set := s.Link, d.sets[h]
	s.Link = 0
	delete(d.sets, h)
	return y, set, 0
}

// come is Ready, or Wait.
func (d doing) come(n int, waits bool) api.Errno {
	if n < 0 || n >= len(d.states) {
		d.step()
		return 151
	}
	for {
		d.step() // 1
		switch {
		case d.states[n] == 2:
			return 0
		case d.states[n] == 1 && !waits:
			return 152
		case d.states[n] == 1:
			continue
		}
		d.step() // 2
		if d.states[n] == 0 {
			d.states[n] = 1
			return d.load(n)
		}
	}
}

func (d doing) load(n int) api.Errno {
	ends := func(state int, err api.Errno) api.Errno {
		d.step() // 3
		d.states[n] = state
		return err
	}
	if d.fails[n] > 0 {
		d.fails[n]--
		return ends(0, 153)
	}
	root, made := 0, []int(nil)
	back := func() {
		for _, h := range slices.Backward(made) {
			d.give(h)
		}
	}
	for _, x := range d.pairs[n] {
		e, err := d.put(root, x.Key, x.Value)
		if err != 0 {
			back()
			return ends(0, err)
		}
		root = e.Root
		made = append(made, e.Made...)
		for _, h := range e.Gone {
			d.give(h)
			made = slices.DeleteFunc(made, func(g int) bool { return g == h })
		}
	}
	if _, err := d.first(n, api.Node{A: root, B: 1}); err != 0 {
		back()
		return ends(0, err)
	}
	return ends(2, 0)
}

// isWorker is what each call of an epoch begins with: whether the worker is one of it.
func (d doing) isWorker() bool {
	d.step()
	return d.k < len(d.at)
}

func (d doing) enter() api.Errno {
	if !d.isWorker() {
		return 111
	}
	if d.depth[d.k] == 0 {
		now := d.epoch
		d.step()
		d.at[d.k] = now
	}
	d.depth[d.k]++
	return 0
}

func (d doing) leave() api.Errno {
	if !d.isWorker() {
		return 111
	}
	if d.depth[d.k] == 0 {
		return 112
	}
	if d.depth[d.k]--; d.depth[d.k] == 0 {
		d.at[d.k] = 0
	}
	return 0
}

func (d doing) advance() bool {
	if !d.isWorker() {
		return false
	}
	now := d.epoch
	for j := range d.at {
		d.step()
		if d.at[j] != 0 && d.at[j] != now {
			return false
		}
	}
	d.step()
	if d.epoch != now {
		return false
	}
	d.epoch++
	return true
}

func (d doing) collect() (int, api.Errno) {
	if !d.isWorker() {
		return 0, 111
	}
	now, list, n := d.epoch, &d.waits[d.k], 0
	for {
		i := slices.IndexFunc(*list, func(x waits) bool { return x.epoch+2 <= now })
		if i < 0 {
			return n, 0
		}
		d.give((*list)[i].handle)
		*list = slices.Delete(slices.Clone(*list), i, i+1)
		n++
	}
}

// edited: what a write's change came to.
type edited struct {
	api.Edit
	changes bool
	many    int
}

func (d doing) refuse(err api.Errno) (api.Told, api.Errno) {
	d.step()
	return api.Told{}, err
}

func (d doing) partGet(n, key int) (api.Told, api.Errno) {
	if err := d.come(n, false); err != 0 {
		return api.Told{}, err
	}
	if err := d.enter(); err != 0 {
		return api.Told{}, err
	}
	told, err := func() (api.Told, api.Errno) {
		h, _, err := d.newest(n)
		if err != 0 {
			return api.Told{}, err
		}
		x, err := d.meet(h)
		if err != 0 {
			return api.Told{}, err
		}
		number := x.Node.B
		value, had, err := d.find(x.Node.A, key)
		if err != 0 {
			return api.Told{}, err
		}
		return api.Told{Value: value, Had: had, Number: number}, 0
	}()
	d.leave()
	return told, err
}

func (d doing) partWrite(n int, makes func(root int) (edited, api.Errno)) (api.Told, api.Errno) {
	if err := d.come(n, true); err != 0 {
		return api.Told{}, err
	}
	if err := d.enter(); err != 0 {
		return api.Told{}, err
	}
	for {
		told, done, err := d.oneRound(n, makes)
		if done || err != 0 {
			d.leave()
			return told, err
		}
	}
}

func (d doing) oneRound(n int, makes func(root int) (edited, api.Errno)) (api.Told, bool, api.Errno) {
	h, _, err := d.newest(n)
	if err != 0 {
		return api.Told{}, false, err
	}
	x, err := d.meet(h)
	if err != 0 {
		return api.Told{}, false, err
	}
	root, number := x.Node.A, x.Node.B
	e, err := makes(root)
	if err != 0 {
		return api.Told{}, false, err
	}
	told := api.Told{Value: e.Old, Had: e.Had, Number: number, Many: e.many}
	if !e.changes {
		return told, true, 0
	}
	ok, err := d.push(n, h, api.Node{A: e.Root, B: number + 1}, e.Gone)
	if err != 0 {
		if len(e.Made) > 0 {
			d.undo(e.Made)
		}
		return api.Told{}, false, err
	}
	if !ok {
		d.undo(e.Made)
		return api.Told{}, false, 0
	}
	told.New, told.Number = true, number+1
	return told, true, 0
}

// manyOf: the change of a Many.
func (d doing) manyOf(root int, list []api.Pair) (edited, api.Errno) {
	all := edited{Edit: api.Edit{Root: root}}
	for _, x := range list {
		e, err := d.put(all.Root, x.Key, x.Value)
		if err != 0 {
			if len(all.Made) > 0 {
				d.undo(all.Made)
			}
			return edited{}, err
		}
		if e.Root != all.Root {
			all.many++
		}
		all.Root = e.Root
		for _, h := range e.Gone {
			i := slices.Index(all.Made, h)
			if i < 0 {
				all.Gone = append(all.Gone, h)
				continue
			}
			d.give(h)
			all.Made = slices.Delete(all.Made, i, i+1)
		}
		all.Made = append(all.Made, e.Made...)
	}
	all.changes = all.Root != root
	return all, 0
}

// ofPart does a call of a part.
func (d doing) ofPart(n int, c api.Call) (api.Told, api.Errno) {
	keys := []int{c.A}
	if c.Kind == 5 {
		keys = nil
		for _, x := range c.Pairs {
			keys = append(keys, x.Key)
		}
	}
	for _, key := range keys {
		if !isOf(key, n, len(d.states)) {
			return d.refuse(161)
		}
	}
	if c.Kind == 1 {
		return d.partGet(n, c.A)
	}
	return d.partWrite(n, func(root int) (edited, api.Errno) {
		switch c.Kind {
		case 2:
			e, err := d.put(root, c.A, c.B)
			return edited{e, e.Root != root, 0}, err
		case 3:
			e, err := d.drop(root, c.A)
			if err == 122 {
				return edited{}, 0
			}
			return edited{e, true, 0}, err
		case 4:
			value, had, err := d.find(root, c.A)
			switch {
			case err != 0:
				return edited{}, err
			case !had:
				return edited{}, 122
			case value != c.B:
				return edited{}, 162
			case c.B == c.C:
				return edited{Edit: api.Edit{Old: c.B, Had: true}}, 0
			}
			e, err := d.put(root, c.A, c.C)
			return edited{e, e.Root != root, 0}, err
		}
		return d.manyOf(root, c.Pairs)
	})
}

func (d doing) retire(h int) api.Errno {
	if !d.isWorker() {
		return 111
	}
	d.waits[d.k] = append(slices.Clone(d.waits[d.k]), waits{h, d.epoch})
	return 0
}

// lease is the clock's Take.
func (d doing) lease() (api.Snap, api.Errno) {
	for i := range d.leases {
		d.step()
		if d.leases[i] != 0 {
			continue
		}
		d.leases[i] = 1
		d.step() // a
		t := d.stamp
		for {
			d.step() // b
			d.leases[i] = t + 1
			d.step() // c
			if d.stamp == t {
				break
			}
			t = d.stamp
		}
		d.step() // d
		if d.stamp == t {
			d.stamp++
		}
		return api.Snap{Lease: i, Stamp: t}, 0
	}
	return api.Snap{}, 132
}

func (d doing) release(i int) api.Errno {
	d.step()
	if i < 0 || i >= len(d.leases) || d.leases[i] == 0 {
		return 133
	}
	d.leases[i] = 0
	return 0
}

func (d doing) holds(s api.Snap) bool {
	d.step()
	return s.Lease >= 0 && s.Lease < len(d.leases) && s.Stamp >= 1 && d.leases[s.Lease]-1 == s.Stamp
}

func (d doing) least() int {
	d.step()
	m := d.stamp
	for i := range d.leases {
		d.step()
		if is := d.leases[i]; is != 0 {
			m = min(m, is-1)
		}
	}
	return m
}

func (d doing) trim(part int) (int, api.Errno) {
	if err := d.enter(); err != 0 {
		return 0, err
	}
	n, err := d.cutBehind(part, d.least())
	d.leave()
	if err != 0 {
		return 0, err
	}
	return n, 0
}

func (d doing) cutBehind(part, t int) (int, api.Errno) {
	v, err := d.shown(part, t)
	if err == 141 {
		return 0, 0
	}
	n := 0
	for err == 0 {
		var y int
		var set []int
		if y, set, err = d.cut(v); err != 0 || y == 0 {
			break
		}
		for _, h := range set {
			d.retire(h)
		}
		d.retire(y)
		n += len(set) + 1
		v = y
	}
	return n, err
}

// The board's calls: names rise.
func (d doing) onBoard(name int) (int, bool) {
	return slices.BinarySearchFunc(d.names, name, func(x api.Pair, name int) int { return x.Key - name })
}

func (d doing) look(name int) (int, api.Errno) {
	d.step()
	if !isKey(name) {
		return 0, 91
	}
	i, there := d.onBoard(name)
	if !there {
		return 0, 92
	}
	return d.names[i].Value, 0
}

func (d doing) add(name, value int) (bool, api.Errno) {
	for {
		d.step()
		if !isKey(name) {
			return false, 91
		}
		was := d.tables
		i, there := d.onBoard(name)
		switch {
		case there:
			return false, 0
		case len(d.names) == mostNames:
			return false, 93
		}
		d.step()
		if d.tables == was {
			d.names = slices.Insert(slices.Clone(d.names), i, api.Pair{Key: name, Value: value})
			d.tables++
			return true, 0
		}
	}
}

func (d doing) takeDown(name int) (int, api.Errno) {
	for {
		d.step()
		if !isKey(name) {
			return 0, 91
		}
		was := d.tables
		i, there := d.onBoard(name)
		if !there {
			return 0, 92
		}
		value := d.names[i].Value
		d.step()
		if d.tables == was {
			d.names = slices.Delete(slices.Clone(d.names), i, i+1)
			d.tables++
			return value, 0
		}
	}
}
