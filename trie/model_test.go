package trie_test

import (
	"iter"
	"math"
	"reflect"
	"slices"
	"testing"

	"skein/api"
	"skein/crew"
	"skein/pool"
	"skein/trie"
)

// The calls, by their names. In a Play's call r is a register; in a named one it is the root itself.
func find(key, r int) api.Call       { return api.Call{Kind: 1, A: key, C: r} }
func put(key, value, r int) api.Call { return api.Call{Kind: 2, A: key, B: value, C: r} }
func drop(key, r int) api.Call       { return api.Call{Kind: 3, A: key, C: r} }
func undo(made ...int) api.Call      { return api.Call{Kind: 4, Pairs: asPairs(made)} }
func clean() api.Call                { return api.Call{Kind: 5} }
func copied(from, to int) api.Call   { return api.Call{Kind: 6, A: from, B: to} }
func count(r int) api.Call           { return api.Call{Kind: 7, C: r} }
func rank(key, r int) api.Call       { return api.Call{Kind: 8, A: key, C: r} }
func nth(i, r int) api.Call          { return api.Call{Kind: 9, A: i, C: r} }
func after(key, r int) api.Call      { return api.Call{Kind: 10, A: key, C: r} }
func walk(lo, hi, r int) api.Call    { return api.Call{Kind: 11, A: lo, B: hi, C: r} }
func diff(a, b int) api.Call         { return api.Call{Kind: 12, A: a, B: b} }
func nodes(r int) api.Call           { return api.Call{Kind: 13, C: r} }

// kindGive: a named call that Play hasn't: pool.Give.
const kindGive = 102

func give(h int) api.Call { return api.Call{Kind: kindGive, A: h} }

// left: a Walk or a Diff that is left behind so many.
func left(c api.Call, behind int) api.Call {
	c.Pairs = asPairs([]int{behind})
	return c
}

// asPairs: numbers, as a named call carries them.
func asPairs(list []int) []api.Pair {
	var pairs []api.Pair
	for _, h := range list {
		pairs = append(pairs, api.Pair{Key: h})
	}
	return pairs
}

func asInts(pairs []api.Pair) []int {
	var list []int
	for _, x := range pairs {
		list = append(list, x.Key)
	}
	return list
}

func work(calls ...[]api.Call) api.Case { return api.Case{Work: calls} }

// word: a slot and a generation in one.
func word(slot, gen int) int { return slot<<40 + gen }

const (
	lowest  = math.MinInt
	highest = math.MaxInt
	most    = 1<<32 - 1 // the greatest key
)

// inner: the first number of an inner node.
func inner(first, place int) int { return first*64 + place + 1 }

// state: all that a pool tells of itself while nobody does a call.
type state struct {
	slots  []api.Slot
	free   []int
	faults int
}

func stateOf(p *pool.Pool) state { return state{p.Slots(), p.Free(), p.Faults()} }

func (s state) same(o state) bool {
	return slices.Equal(s.slots, o.slots) && slices.Equal(s.free, o.free) && s.faults == o.faults
}

// sameLists holds lists against each other; a nil list and an empty one are the same.
func sameLists(a, b [][]int) bool { return slices.EqualFunc(a, b, slices.Equal) }

// model: a pool and the tries in it, as the chapters' lines say them.
type model struct {
	slots    []api.Slot // that of 0 is idle
	top, tag int        // of the pile
	next     []int
	faults   int
	regs     [8][4]int
	edits    [8]api.Edit
	stops    []func()
}

func newModel(slots int) *model {
	m := &model{slots: make([]api.Slot, slots+1), top: 1, next: make([]int, slots+1)}
	for i := 1; i < slots; i++ {
		m.next[i] = i + 1
	}
	return m
}

func (m *model) state() state {
	s := state{slots: slices.Clone(m.slots[1:]), faults: m.faults}
	for i := m.top; i != 0 && len(s.free) < len(s.slots); i = m.next[i] {
		s.free = append(s.free, i)
	}
	return s
}

// registers of so many workers.
func (m *model) registers(workers int) [][]int {
	var list [][]int
	for k := range workers {
		list = append(list, slices.Clone(m.regs[k][:]))
	}
	return list
}

// doing: a call that is being done; step asks for its next line.
type doing struct {
	*model
	k    int
	step func()
}

func (d doing) take(x api.Node) (int, api.Errno) {
	for {
		d.step()
		top, tag := d.top, d.tag
		if top == 0 {
			return 0, 102
		}
		d.step()
		below := d.next[top]
		d.step()
		if d.top == top && d.tag == tag {
			d.top, d.tag = below, tag+1
			d.slots[top] = api.Slot{Gen: d.slots[top].Gen + 1, Node: x}
			return word(top, d.slots[top].Gen), 0
		}
	}
}

// slot tells the slot of a handle, 0 of what is none.
func (d doing) slot(h int) int {
	if i := h >> 40; h >= 0 && i < len(d.slots) && h%2 == 1 {
		return i
	}
	return 0
}

func (d doing) give(h int) api.Errno {
	d.step()
	i := d.slot(h)
	if i == 0 {
		return 103
	}
	if d.slots[i].Gen != h%(1<<40) {
		return 104
	}
	d.slots[i] = api.Slot{Gen: d.slots[i].Gen + 1, Node: api.Node{A: -7777777, B: -7777777, C: -7777777, D: -7777777}, Mark: -7777777, Link: -7777777}
	for {
		d.step()
		top, tag := d.top, d.tag
		d.step()
		d.next[i] = top
		d.step()
		if d.top == top && d.tag == tag {
			d.top, d.tag = i, tag+1
			return 0
		}
	}
}

// seen: a node that was read, and its span.
type seen struct {
	h           int
	x           api.Node
	first, last int
}

func (n seen) isLeaf() bool { return n.x.A == 0 }

// middle: where the upper half begins.
func (n seen) middle() int { return n.first + (n.last-n.first+1)/2 }

func noKey(key int) bool { return key < 0 || key > most }

func (d doing) read(h, lo, hi int) (seen, api.Errno) {
	d.step()
	i := d.slot(h)
	if i == 0 {
		return seen{}, 103
	}
	if d.slots[i].Gen != h%(1<<40) {
		d.faults++
		return seen{}, 104
	}
	x := d.slots[i].Node
	n := seen{h, x, x.B, x.B}
	if x.A < 0 || x.A == 0 && (noKey(x.B) || x.D != 1) {
		return seen{}, 121
	}
	if x.A > 0 {
		first, p := (x.A-1)/64, (x.A-1)%64
		if p > 31 || noKey(first) || first%(2<<p) != 0 {
			return seen{}, 121
		}
		n.first, n.last = first, first+(2<<p)-1
	}
	if n.first < lo || n.last > hi {
		return seen{}, 121
	}
	return n, 0
}

func (d doing) root(h int) (seen, api.Errno)   { return d.read(h, 0, most) }
func (d doing) lower(n seen) (seen, api.Errno) { return d.read(n.x.B, n.first, n.middle()-1) }
func (d doing) upper(n seen) (seen, api.Errno) { return d.read(n.x.C, n.middle(), n.last) }

// down: the way, and where it ends.
func (d doing) down(root, key int) ([]seen, seen, api.Errno) {
	var way []seen
	n, err := d.root(root)
	for err == 0 && !n.isLeaf() && n.first <= key && key <= n.last {
		way = append(way, n)
		if key < n.middle() {
			n, err = d.lower(n)
		} else {
			n, err = d.upper(n)
		}
	}
	return way, n, err
}

// idle: a line without an access.
func (d doing) idle(err api.Errno) api.Answer {
	d.step()
	return api.Answer{Err: err}
}

func (d doing) find(root, key int) api.Answer {
	_, n, err := d.down(root, key)
	if err != 0 || !n.isLeaf() || n.x.B != key {
		return api.Answer{Err: err}
	}
	return api.Answer{N: n.x.C, Ok: true}
}

func (d doing) rank(root, key int) api.Answer {
	way, n, err := d.down(root, key)
	if err != 0 {
		return api.Answer{Err: err}
	}
	sum := 0
	for i, x := range way {
		below := n
		if i+1 < len(way) {
			below = way[i+1]
		}
		if key >= x.middle() {
			sum += x.x.D - below.x.D
		}
	}
	if n.last < key {
		sum += n.x.D
	}
	return api.Answer{N: sum}
}

func pairOf(n seen, err api.Errno) api.Answer {
	if err != 0 {
		return api.Answer{Err: err}
	}
	return api.Answer{N: n.x.B, M: n.x.C}
}

func (d doing) nth(root, i int) api.Answer {
	n, err := d.root(root)
	if err == 0 && (i < 0 || i > n.x.D-1 || n.x.D < 1) {
		err = 122
	}
	for err == 0 && !n.isLeaf() {
		above := n
		if n, err = d.lower(above); err == 0 && n.x.D <= i {
			i -= n.x.D
			n, err = d.upper(above)
		}
	}
	return pairOf(n, err)
}

func (d doing) after(root, key int) api.Answer {
	way, n, err := d.down(root, key+1)
	if err != 0 {
		return api.Answer{Err: err}
	}
	if n.first < key+1 {
		for len(way) > 0 && key+1 >= way[len(way)-1].middle() {
			way = way[:len(way)-1]
		}
		if len(way) == 0 {
			return api.Answer{Err: 122}
		}
		n, err = d.upper(way[len(way)-1])
	}
	for err == 0 && !n.isLeaf() {
		n, err = d.lower(n)
	}
	return pairOf(n, err)
}

// making: a node, of the handle below it.
type making func(below int) api.Node

// anew: the nodes of a way, from below, with so many keys more.
func anew(way []seen, key, more int) ([]making, []int) {
	var makes []making
	var gone []int
	for i := len(way) - 1; i >= 0; i-- {
		n := way[i]
		gone = append(gone, n.h)
		makes = append(makes, func(below int) api.Node {
			if key < n.middle() {
				return api.Node{A: n.x.A, B: below, C: n.x.C, D: n.x.D + more}
			}
			return api.Node{A: n.x.A, B: n.x.B, C: below, D: n.x.D + more}
		})
	}
	return makes, gone
}

// made does what a Put or a Drop makes.
func (d doing) made(e api.Edit, makes []making) (api.Edit, api.Errno) {
	for _, f := range makes {
		h, err := d.take(f(e.Root))
		if err != 0 {
			for i := len(e.Made) - 1; i >= 0; i-- {
				d.give(e.Made[i])
			}
			return api.Edit{}, err
		}
		e.Root = h
		e.Made = append(e.Made, h)
	}
	return e, 0
}

func (d doing) put(root, key, value int) (api.Edit, api.Errno) {
	if noKey(key) {
		d.step()
		return api.Edit{}, 120
	}
	leaf := func(int) api.Node { return api.Node{B: key, C: value, D: 1} }
	if root == 0 {
		return d.made(api.Edit{}, []making{leaf})
	}
	way, n, err := d.down(root, key)
	if err != 0 {
		return api.Edit{}, err
	}
	if n.isLeaf() && n.x.B == key {
		if n.x.C == value {
			return api.Edit{Root: root, Old: value, Had: true}, 0
		}
		makes, gone := anew(way, key, 0)
		return d.made(api.Edit{Old: n.x.C, Had: true, Gone: append([]int{n.h}, gone...)}, append([]making{leaf}, makes...))
	}
	p := 31
	for key>>p&1 == n.first>>p&1 {
		p--
	}
	joint := func(below int) api.Node {
		x := api.Node{A: (key-key%(2<<p))*64 + p + 1, B: below, C: n.h, D: n.x.D + 1}
		if key > n.first {
			x.B, x.C = x.C, x.B
		}
		return x
	}
	makes, gone := anew(way, key, 1)
	return d.made(api.Edit{Gone: gone}, append([]making{leaf, joint}, makes...))
}

func (d doing) drop(root, key int) (api.Edit, api.Errno) {
	if noKey(key) || root == 0 {
		d.step()
		return api.Edit{}, map[bool]api.Errno{true: 120, false: 122}[noKey(key)]
	}
	way, n, err := d.down(root, key)
	if err == 0 && (!n.isLeaf() || n.x.B != key) {
		err = 122
	}
	if err != 0 {
		return api.Edit{}, err
	}
	e := api.Edit{Old: n.x.C, Had: true, Gone: []int{n.h}}
	if len(way) == 0 {
		return e, 0
	}
	above := way[len(way)-1]
	e.Root = above.x.B
	if key < above.middle() {
		e.Root = above.x.C
	}
	makes, gone := anew(way[:len(way)-1], key, -1)
	e.Gone = append(e.Gone, above.h)
	e.Gone = append(e.Gone, gone...)
	return d.made(e, makes)
}

func (d doing) undo(made []int) api.Errno {
	if len(made) == 0 {
		d.step()
	}
	for i := len(made) - 1; i >= 0; i-- {
		if err := d.give(made[i]); err != 0 {
			return err
		}
	}
	return 0
}

// over: it isn't gone on: with an error, or with 0, if it was left.
type over struct{ err api.Errno }

// go on, or panic with over: a walk is short so.
func must(n seen, err api.Errno) seen {
	if err != 0 {
		panic(over{err})
	}
	return n
}

func (d doing) walk(n seen, lo, hi int, give func(key, value int)) {
	if n.isLeaf() {
		if lo <= n.x.B && n.x.B <= hi {
			give(n.x.B, n.x.C)
		}
		return
	}
	if lo <= hi && lo < n.middle() && hi >= n.first {
		d.walk(must(d.lower(n)), lo, hi, give)
	}
	if lo <= hi && lo <= n.last && hi >= n.middle() {
		d.walk(must(d.upper(n)), lo, hi, give)
	}
}

func (d doing) nodes(n seen, give func(h int)) {
	give(n.h)
	if !n.isLeaf() {
		d.nodes(must(d.lower(n)), give)
		d.nodes(must(d.upper(n)), give)
	}
}

// place: a node of one of Diff's roots: by its handle and within which keys, and once it was read by itself.
type place struct {
	h, lo, hi int
	n         *seen
}

func (d doing) look(p place) place {
	if p.n == nil {
		n := must(d.read(p.h, p.lo, p.hi))
		p.n = &n
	}
	return p
}

func (p place) halves() (place, place) {
	n := *p.n
	return place{h: n.x.B, lo: n.first, hi: n.middle() - 1}, place{h: n.x.C, lo: n.middle(), hi: n.last}
}

// gives: what Diff gives: of a key, whether it is in a and its value there, the same in b.
type gives func(key, had, old, has, now int)

func (d doing) gone(p place, give gives) {
	d.walk(*d.look(p).n, 0, most, func(key, value int) { give(key, 1, value, 0, 0) })
}

func (d doing) came(p place, give gives) {
	d.walk(*d.look(p).n, 0, most, func(key, value int) { give(key, 0, 0, 1, value) })
}

func (d doing) diff(a, b place, give gives) {
	switch {
	case a.h == b.h:
		return
	case a.h == 0:
		d.came(b, give)
		return
	case b.h == 0:
		d.gone(a, give)
		return
	}
	a = d.look(a)
	b = d.look(b)
	x, y := *a.n, *b.n
	switch {
	case x.isLeaf() && y.isLeaf() && x.x.B == y.x.B:
		if x.x.C != y.x.C {
			give(x.x.B, 1, x.x.C, 1, y.x.C)
		}
	case x.last < y.first:
		d.gone(a, give)
		d.came(b, give)
	case y.last < x.first:
		d.came(b, give)
		d.gone(a, give)
	case x.first == y.first && x.last == y.last:
		al, au := a.halves()
		bl, bu := b.halves()
		d.diff(al, bl, give)
		d.diff(au, bu, give)
	case x.last-x.first > y.last-y.first && y.last < x.middle():
		l, u := a.halves()
		d.diff(l, b, give)
		d.gone(u, give)
	case x.last-x.first > y.last-y.first:
		l, u := a.halves()
		d.gone(l, give)
		d.diff(u, b, give)
	case x.last < y.middle():
		l, u := b.halves()
		d.diff(a, l, give)
		d.came(u, give)
	default:
		l, u := b.halves()
		d.came(l, give)
		d.diff(a, u, give)
	}
}

// upToOver does f, up to what it ends by: an error, or 0.
func upToOver(f func()) (err api.Errno) {
	defer func() {
		if r := recover(); r != nil {
			o, ok := r.(over)
			if !ok {
				panic(r)
			}
			err = o.err
		}
	}()
	f()
	return 0
}

// behind counts what is given, and leaves, if the call says so.
func behind(c api.Call) func() {
	n := 0
	return func() {
		n++
		if len(c.Pairs) > 0 && n == c.Pairs[0].Key {
			panic(over{0})
		}
	}
}

func (d doing) walked(root int, c api.Call) api.Answer {
	if noKey(c.A) || noKey(c.B) {
		return d.idle(120)
	}
	var a api.Answer
	next := behind(c)
	if root != 0 {
		a.Err = upToOver(func() {
			d.walk(must(d.root(root)), c.A, c.B, func(key, value int) {
				a.Pairs = append(a.Pairs, api.Pair{Key: key, Value: value})
				next()
			})
		})
	}
	return a
}

func (d doing) differed(x, y int, c api.Call) api.Answer {
	var a api.Answer
	next := behind(c)
	a.Err = upToOver(func() {
		d.diff(place{h: x, hi: most}, place{h: y, hi: most}, func(key, had, old, has, now int) {
			a.Ints = append(a.Ints, key, had, old, has, now)
			next()
		})
	})
	return a
}

func (d doing) allNodes(root int) api.Answer {
	var a api.Answer
	a.Err = upToOver(func() { d.nodes(must(d.root(root)), func(h int) { a.Ints = append(a.Ints, h) }) })
	if a.Err != 0 {
		a.Ints = nil
	}
	return a
}

// asked: a call that changes nothing.
func (d doing) asked(root int, c api.Call) api.Answer {
	byKey := c.Kind == 1 || c.Kind == 8 || c.Kind == 10
	switch {
	case c.Kind == 11:
		return d.walked(root, c)
	case byKey && noKey(c.A):
		return d.idle(120)
	case root == 0 && (c.Kind == 9 || c.Kind == 10) || c.Kind == 10 && c.A == most:
		return d.idle(122)
	case root == 0:
		return d.idle(0)
	}
	switch c.Kind {
	case 1:
		return d.find(root, c.A)
	case 7:
		n, err := d.root(root)
		return api.Answer{N: n.x.D, Err: err}
	case 8:
		return d.rank(root, c.A)
	case 9:
		return d.nth(root, c.A)
	case 10:
		return d.after(root, c.A)
	}
	return d.allNodes(root)
}

// edited: a Put or a Drop.
func (d doing) edited(root int, c api.Call) (api.Answer, api.Edit) {
	e, err := api.Edit{}, api.Errno(0)
	if c.Kind == 2 {
		e, err = d.put(root, c.A, c.B)
	} else {
		e, err = d.drop(root, c.A)
	}
	return editAnswer(e, err), e
}

func editAnswer(e api.Edit, err api.Errno) api.Answer {
	if err != 0 && (e.Root != 0 || e.Old != 0 || e.Had || len(e.Gone)+len(e.Made) > 0) {
		err = errBeside
	}
	if err != 0 {
		return api.Answer{Err: err}
	}
	return api.Answer{Ok: e.Had, N: e.Root, M: e.Old, Ints: slices.Concat([]int{len(e.Gone)}, e.Gone, e.Made)}
}

// named does a call whose root is told by itself.
func (d doing) named(c api.Call) api.Answer {
	switch c.Kind {
	case 2, 3:
		a, _ := d.edited(c.C, c)
		return a
	case 4:
		return api.Answer{Err: d.undo(asInts(c.Pairs))}
	case 12:
		return d.differed(c.A, c.B, c)
	case kindGive:
		return api.Answer{Err: d.give(c.A)}
	}
	return d.asked(c.C, c)
}

// play does a call of Play's.
func (d doing) play(c api.Call) api.Answer {
	c.Pairs = nil
	regs, edit := &d.regs[d.k], &d.edits[d.k]
	isReg := func(r int) bool { return r >= 0 && r <= 3 }
	switch c.Kind {
	case 4:
		return api.Answer{Err: d.undo(edit.Made)}
	case 5:
		return api.Answer{Err: d.undo(edit.Gone)}
	case 6, 12:
		if !isReg(c.A) || !isReg(c.B) {
			return d.idle(121)
		}
		if c.Kind == 12 {
			return d.differed(regs[c.A], regs[c.B], c)
		}
		d.step()
		regs[c.B] = regs[c.A]
		return api.Answer{}
	}
	if c.Kind < 1 || c.Kind > 13 {
		return d.idle(123)
	}
	if !isReg(c.C) {
		return d.idle(121)
	}
	if c.Kind == 2 || c.Kind == 3 {
		a, e := d.edited(regs[c.C], c)
		if a.Err == 0 {
			regs[c.C], *edit = e.Root, e
		}
		return a
	}
	return d.asked(regs[c.C], c)
}

// cutOff: a call of the model's is let go.
type cutOff struct{}

// begin tells a call line by line.
func (m *model) begin(isPlay bool) func(k int, c api.Call) line {
	return func(k int, c api.Call) line {
		var a api.Answer
		next, stop := iter.Pull(func(yield func(int) bool) {
			defer func() {
				if r := recover(); r != nil && r != any(cutOff{}) {
					panic(r)
				}
			}()
			d := doing{m, k, func() {
				if !yield(0) {
					panic(cutOff{})
				}
			}}
			if isPlay {
				a = d.play(c)
			} else {
				a = d.named(c)
			}
		})
		m.stops = append(m.stops, stop)
		_, more := next() // up to its first line
		return func() (api.Answer, bool) {
			if more {
				_, more = next()
			}
			return a, !more
		}
	}
}

// run does a case, line by line.
func (m *model) run(c api.Case, isPlay bool) api.Run {
	run := modelRun(c, m.begin(isPlay))
	for _, stop := range m.stops {
		stop()
	}
	m.stops = nil
	return run
}

// alone does a named call with all its lines at once; Own tells how many.
func (m *model) alone(c api.Call) api.Answer {
	lines := 0
	a := doing{m, 0, func() { lines++ }}.named(c)
	a.Own = max(lines, 1)
	return a
}

// both: tries and their pool.
type both struct {
	x *trie.Trie
	p *pool.Pool
}

func newBoth(t *testing.T, slots int) both {
	t.Helper()
	p, err := pool.New(slots)
	if err != api.OK {
		t.Fatalf("pool.New(%d): %v", slots, err)
	}
	return both{trie.New(p), p}
}

func (b both) state() state { return stateOf(b.p) }

// Errors of no layer, for what a call never does.
const (
	errBehind = -1 // something was given behind an error
	errBeside = -2 // something was told beside an error
)

func (b both) walk(w *crew.Worker, c api.Call) api.Answer {
	var a api.Answer
	for x, err := range b.x.Walk(w, c.C, c.A, c.B) {
		switch {
		case a.Err != 0:
			a.Err = errBehind
		case err != 0 && x != api.Pair{}:
			a.Err = errBeside
		case err != 0:
			a.Err = err
		default:
			a.Pairs = append(a.Pairs, x)
		}
		if len(c.Pairs) > 0 && len(a.Pairs) == c.Pairs[0].Key {
			break
		}
	}
	return a
}

func (b both) diff(w *crew.Worker, c api.Call) api.Answer {
	var a api.Answer
	is := map[bool]int{true: 1}
	for x, err := range b.x.Diff(w, c.A, c.B) {
		switch {
		case a.Err != 0:
			a.Err = errBehind
		case err != 0 && x != api.Change{}:
			a.Err = errBeside
		case err != 0:
			a.Err = err
		default:
			a.Ints = append(a.Ints, x.Key, is[x.Had], x.Old, is[x.Has], x.New)
		}
		if len(c.Pairs) > 0 && len(a.Ints) == 5*c.Pairs[0].Key {
			break
		}
	}
	return a
}

// Do does named calls.
func (b both) Do(w *crew.Worker, c api.Call) api.Answer {
	var a api.Answer
	var x api.Pair
	switch c.Kind {
	case 1:
		a.N, a.Ok, a.Err = b.x.Find(w, c.C, c.A)
	case 2:
		return editAnswer(b.x.Put(w, c.C, c.A, c.B))
	case 3:
		return editAnswer(b.x.Drop(w, c.C, c.A))
	case 4:
		a.Err = b.x.Undo(w, asInts(c.Pairs))
	case 7:
		a.N, a.Err = b.x.Count(w, c.C)
	case 8:
		a.N, a.Err = b.x.Rank(w, c.C, c.A)
	case 9:
		x, a.Err = b.x.Select(w, c.C, c.A)
		a.N, a.M = x.Key, x.Value
	case 10:
		x, a.Err = b.x.Next(w, c.C, c.A)
		a.N, a.M = x.Key, x.Value
	case 11:
		return b.walk(w, c)
	case 12:
		return b.diff(w, c)
	case 13:
		a.Ints, a.Err = b.x.Nodes(w, c.C)
	case kindGive:
		a.Err = b.p.Give(w, c.A)
	}
	return a
}

// by does a named call by a worker of a run; its answer tells how many lines it did.
func (b both) by(t *testing.T, c api.Call) api.Answer {
	t.Helper()
	run, err := crew.Run(work([]api.Call{c}), b)
	if err != api.OK || run.Cut || len(run.Answers[0]) != 1 {
		t.Fatalf("%+v: %+v, %v", c, run, err)
	}
	return run.Answers[0][0]
}

func sameAnswer(a, b api.Answer) bool {
	a.Begin, a.End, a.Own = b.Begin, b.End, b.Own
	return reflect.DeepEqual(plainRun(api.Run{Answers: [][]api.Answer{{a}}}), plainRun(api.Run{Answers: [][]api.Answer{{b}}}))
}

// twin: tries and a model of them, to which the same is done.
type twin struct {
	both
	m *model
}

func newTwin(t *testing.T, slots int) twin {
	t.Helper()
	return twin{newBoth(t, slots), newModel(slots)}
}

// node puts a node into the pool by itself, whatever it is.
func (w twin) node(t *testing.T, x api.Node) int {
	t.Helper()
	h, err := w.p.Take(nil, x, 0)
	g, e := doing{w.m, 0, func() {}}.take(x)
	if err != api.OK || e != 0 || h != g {
		t.Fatalf("pool.Take(%v): %d, %v; want %d, %v", x, h, err, g, e)
	}
	return h
}

// wants does a named call, as the model does it: the answer, its lines, the pool.
func (w twin) wants(t *testing.T, promise string, c api.Call) api.Answer {
	t.Helper()
	want := w.m.alone(c)
	a := w.by(t, c)
	if !sameAnswer(a, want) || a.Own != want.Own || !w.state().same(w.m.state()) {
		t.Fatalf("%s: %+v\ngot  %+v, %+v\nwant %+v, %+v", promise, c, a, w.state(), want, w.m.state())
	}
	return a
}

// root puts keys, each with ten times itself as its value; what isn't needed any more stays.
func (w twin) root(t *testing.T, keys ...int) int {
	t.Helper()
	return w.grow(t, 0, keys...)
}

// grow does the same behind a root.
func (w twin) grow(t *testing.T, root int, keys ...int) int {
	t.Helper()
	for _, key := range keys {
		root = w.wants(t, "P12.6", put(key, 10*key, root)).N
	}
	return root
}

func wantPlay(t *testing.T, promise string, slots int, c api.Case, want api.Run, left []api.Slot, regs [][]int) {
	t.Helper()
	run, s, r, err := trie.Play(slots, c)
	if err != api.OK || !sameRun(run, want) || !slices.Equal(s, left) || !sameLists(r, regs) {
		t.Fatalf("%s: Play(%d, %+v)\ngot  %+v %v %v %v\nwant %+v %v %v", promise, slots, c, run, s, r, err, want, left, regs)
	}
}

// wantModel holds a Play against the model.
func wantModel(t *testing.T, promise string, slots int, c api.Case) (api.Run, [][]int) {
	t.Helper()
	m := newModel(slots)
	run := m.run(c, true)
	regs := m.registers(len(c.Work))
	wantPlay(t, promise, slots, c, run, m.state().slots, regs)
	return run, regs
}

var (
	noSizes    = []int{lowest, lowest + 1, -1 << 32, -4096, -1, 0, 4097, 4098, 8192, 1 << 20, 1 << 32, 1<<32 + 1, highest - 1, highest}
	noKeys     = []int{lowest, lowest + 1, -1 << 32, -1<<31 - 1, -65, -2, -1, most + 1, most + 2, 1<<33 - 1, 1 << 40, 1 << 60, highest - 1, highest}
	edgeKeys   = []int{0, 1, 2, 1<<31 - 1, 1 << 31, 1<<31 + 1, most - 1, most}
	edgeValues = []int{lowest, lowest + 1, -1, 0, 1, most, most + 1, highest - 1, highest}
	noRegs     = []int{lowest, lowest + 1, -1 << 32, -5, -4, -1, 4, 5, 8, 1 << 32, 1<<32 + 1, highest - 1, highest}
	farNumbers = []int{lowest, lowest + 1, -1 << 32, -65, -2, -1, 0, 1, 2, 63, 64, 65, 1 << 32, highest - 1, highest}
	fewHalts   = []int{lowest, -1, 0, 0, 0, 1, 2, 3, 4, 5, 8, 12, 20, 33, highest}
	fewUntils  = []int{0, 0, 0, 0, 1, 2, 3, 7, 15, 40, 19999, 20000}
)

// noHandles: what is no handle of a slot of a pool of n.
func noHandles(n int) []int {
	return []int{
		1, 5, word(0, 1), word(n+1, 1), word(n+1, 3), word(8192, 1), word(1, 0), word(1, 2), word(n, 2), word(n+1, 0),
		1<<60 + word(1, 1), 1<<62 + word(1, 1), 1 << 60, -1, -word(1, 1), lowest + word(1, 1), lowest, lowest + 1, highest - 1, highest,
	}
}

// mixed: a Play's arguments.
type mixed struct {
	slots int
	c     api.Case
}

// fewKeys: keys that come together often.
var fewKeys = []int{0, 1, 2, 3, 5, 6, 7, 8, 12, 1 << 20, 1 << 31, 1<<31 + 1, most - 1, most}

func (m *mixer) play(wild bool) api.Call {
	kind := m.one([]int{1, 2, 2, 2, 2, 2, 2, 3, 3, 4, 5, 5, 6, 7, 8, 9, 10, 11, 12, 12, 13})
	c := api.Call{Kind: kind, A: m.one(fewKeys), B: m.below(3), C: m.one([]int{0, 0, 0, 0, 1, 1, 2, 3})}
	switch kind {
	case 6, 12:
		c.A, c.B = m.below(4), m.below(4)
	case 9:
		c.A = m.below(6)
	case 11:
		c.B = m.one(fewKeys)
		if m.below(2) == 0 {
			c.A, c.B = 0, most
		}
	}
	if wild && m.below(8) == 0 {
		switch m.below(5) {
		case 0:
			c.Kind = m.one([]int{lowest, -1, 0, 14, 15, 102, highest})
		case 1:
			c.A = m.one(noKeys)
		case 2:
			c.B = m.one(edgeValues)
		case 3:
			c.C = m.one(noRegs)
		case 4:
			c.A, c.C = m.one(noKeys), m.one(noRegs)
		}
	}
	return c
}

func (m *mixer) mixed(wild bool) mixed {
	x := mixed{slots: m.one([]int{1, 2, 3, 5, 8, 12, 20, 40, 90})}
	for range 1 + m.below(4) {
		var calls []api.Call
		for range m.below(20) {
			calls = append(calls, m.play(wild))
		}
		x.c.Work = append(x.c.Work, calls)
	}
	for range m.below(90) {
		x.c.Turns = append(x.c.Turns, m.one(farNumbers)+m.below(8))
	}
	// A worker that goes on for some time makes that others meet what it left.
	for range m.below(6) {
		k, times := m.below(8), m.below(12)
		x.c.Turns = append(x.c.Turns, slices.Repeat([]int{k}, times)...)
	}
	if m.below(2) == 0 {
		for range m.below(7) {
			x.c.Halt = append(x.c.Halt, m.one(fewHalts))
		}
		x.c.Until = m.one(fewUntils)
	}
	return x
}

// mixedPlays calls f with so many Plays' arguments.
func mixedPlays(count int, wild bool, f func(x mixed)) {
	m := mixer(count)
	for range count {
		f(m.mixed(wild))
	}
}
