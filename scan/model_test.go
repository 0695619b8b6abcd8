package scan_test

import (
	"iter"
	"math"
	"slices"

	"skein/api"
)

// The calls of Play, by their names.
func get(key int) api.Call             { return api.Call{Kind: 1, A: key} }
func put(key, value int) api.Call      { return api.Call{Kind: 2, A: key, B: value} }
func drop(key int) api.Call            { return api.Call{Kind: 3, A: key} }
func many(numbers ...int) api.Call     { return api.Call{Kind: 5, Pairs: pairs(numbers...)} }
func snap(register int) api.Call       { return api.Call{Kind: 6, A: register} }
func free(register int) api.Call       { return api.Call{Kind: 7, A: register} }
func peek(register, key int) api.Call  { return api.Call{Kind: 8, A: register, B: key} }
func name(name, register int) api.Call { return api.Call{Kind: 9, A: name, B: register} }
func trim(part int) api.Call           { return api.Call{Kind: 12, A: part} }
func advance() api.Call                { return api.Call{Kind: 13} }
func collect() api.Call                { return api.Call{Kind: 14} }
func names() api.Call                  { return api.Call{Kind: 15} }

func ranged(register, lo, hi int) api.Call  { return api.Call{Kind: 16, A: register, B: lo, C: hi} }
func counted(register, lo, hi int) api.Call { return api.Call{Kind: 17, A: register, B: lo, C: hi} }
func paged(register, after, n int) api.Call { return api.Call{Kind: 18, A: register, B: after, C: n} }
func differ(a, b int) api.Call              { return api.Call{Kind: 19, A: a, B: b} }

// Calls that Play hasn't: scans and those of the store by a snapshot that is handed in, and those of the layers below, by which a store can be spoilt.
const (
	kindFreeBy = iota + 101
	kindTake
	kindSlot
	kindGive
	kindFirst
	kindPush
	kindRetire
	kindReady
	kindLink
	kindMark
	kindRangeBy
	kindCountBy
	kindPageBy
	kindDiffBy
)

func rangeBy(x api.Snap, lo, hi int) api.Call {
	return api.Call{Kind: kindRangeBy, A: x.Lease, B: x.Stamp, Pairs: pairs(lo, hi)}
}
func countBy(x api.Snap, lo, hi int) api.Call {
	return api.Call{Kind: kindCountBy, A: x.Lease, B: x.Stamp, Pairs: pairs(lo, hi)}
}
func pageBy(x api.Snap, after, n int) api.Call {
	return api.Call{Kind: kindPageBy, A: x.Lease, B: x.Stamp, Pairs: pairs(after, n)}
}
func diffBy(x, y api.Snap) api.Call {
	return api.Call{Kind: kindDiffBy, A: x.Lease, B: x.Stamp, Pairs: pairs(y.Lease, y.Stamp)}
}

// left: a Range or a Diff that is left behind so many.
func left(c api.Call, behind int) api.Call {
	c.C = behind
	return c
}

func at(lease, stamp int) api.Snap { return api.Snap{Lease: lease, Stamp: stamp} }

func freeBy(lease, stamp int) api.Call { return api.Call{Kind: kindFreeBy, A: lease, B: stamp} }
func lease() api.Call                  { return api.Call{Kind: kindTake} }
func slot(a, b, c, d int) api.Call {
	return api.Call{Kind: kindSlot, A: a, B: b, C: c, Pairs: pairs(d, 0)}
}
func give(h int) api.Call { return api.Call{Kind: kindGive, A: h} }
func first(part, root, number int) api.Call {
	return api.Call{Kind: kindFirst, A: part, B: root, C: number}
}
func publish(part, root, number int) api.Call {
	return api.Call{Kind: kindPush, A: part, B: root, C: number}
}
func retire(h int) api.Call       { return api.Call{Kind: kindRetire, A: h} }
func ready(part int) api.Call     { return api.Call{Kind: kindReady, A: part} }
func link(h, v int) api.Call      { return api.Call{Kind: kindLink, A: h, B: v} }
func mark(h, old, v int) api.Call { return api.Call{Kind: kindMark, A: h, B: old, C: v} }

func work(calls ...[]api.Call) api.Case { return api.Case{Work: calls} }

// word: a slot and a generation, or a lease and a stamp, in one.
func word(index, tag int) int { return index<<40 + tag }

const (
	lowest     = math.MinInt
	highest    = math.MaxInt
	mostKey    = 1<<32 - 1
	mostParts  = 64
	mostSlots  = 4096
	mostLeases = 64
	mostNames  = 64
	mostSource = 256
	mostPage   = 1000
)

// pairs: a key and its value, by turns.
func pairs(numbers ...int) []api.Pair {
	var list []api.Pair
	for i := 0; i < len(numbers); i += 2 {
		list = append(list, api.Pair{Key: numbers[i], Value: numbers[i+1]})
	}
	return list
}

// upTo: 1 to n.
func upTo(n int) []int {
	list := make([]int, n)
	for i := range list {
		list[i] = i + 1
	}
	return list
}

func isKey(key int) bool { return key >= 0 && key <= mostKey }

// least: the least key of a part.
func least(part, parts int) int {
	key := part << 32 / parts
	for key*parts < part<<32 {
		key++
	}
	return key
}

// isOf tells whether a key is a part's.
func isOf(key, part, parts int) bool {
	return isKey(key) && part >= 0 && part < parts && key >= least(part, parts) && key < least(part+1, parts)
}

// partOf: the part of a key; -1: it is none.
func partOf(key, parts int) int {
	for i := range parts {
		if isOf(key, i, parts) {
			return i
		}
	}
	return -1
}

// target: the part to which a Play's call goes; -1: to none.
func target(c api.Call, parts int) int {
	switch {
	case c.Kind >= 1 && c.Kind <= 4:
		return partOf(c.A, parts)
	case c.Kind == 5 && len(c.Pairs) == 0:
		return 0
	case c.Kind == 5:
		return partOf(c.Pairs[0].Key, parts)
	case c.Kind == 8 || c.Kind == 11:
		return partOf(c.B, parts)
	case c.Kind == 12 && c.A >= 0 && c.A < parts:
		return c.A
	}
	return -1
}

// state: all that a store tells of itself while nobody does a call.
type state struct {
	states    []int
	versions  [][]int   // by part
	sets      [][][]int // by part, of each version
	slots     []api.Slot
	free      []int
	faults    int
	stamp     int // the clock's now
	leases    []int
	names     []api.Pair
	epoch     int
	at        []int
	waiting   [][]int
	registers [8][4]api.Snap
}

// newState: that of a new one.
func newState(s api.Setup) state {
	return state{
		states: make([]int, s.Parts), versions: make([][]int, s.Parts), sets: make([][][]int, s.Parts), slots: make([]api.Slot, s.Slots), free: upTo(s.Slots),
		stamp: 1, leases: make([]int, s.Leases), epoch: 1, at: make([]int, s.Workers), waiting: make([][]int, s.Workers),
	}
}

func (s state) same(o state) bool {
	return slices.Equal(s.states, o.states) && sameLists(s.versions, o.versions) && slices.EqualFunc(s.sets, o.sets, sameLists) &&
		slices.Equal(s.slots, o.slots) && slices.Equal(s.free, o.free) && s.faults == o.faults && s.stamp == o.stamp && slices.Equal(s.leases, o.leases) &&
		slices.Equal(s.names, o.names) && s.epoch == o.epoch && slices.Equal(s.at, o.at) && sameLists(s.waiting, o.waiting) && s.registers == o.registers
}

// sameLists holds lists against each other; a nil list and an empty one are the same.
func sameLists(a, b [][]int) bool { return slices.EqualFunc(a, b, slices.Equal) }

// slot: that of a handle.
func (s state) slot(h int) api.Slot { return s.slots[h>>40-1] }

// pairsOf: what a tree holds, rising.
func (s state) pairsOf(root int) []api.Pair {
	if root == 0 {
		return nil
	}
	x := s.slot(root).Node
	if x.A == 0 {
		return []api.Pair{{Key: x.B, Value: x.C}}
	}
	return append(s.pairsOf(x.B), s.pairsOf(x.C)...)
}

// rows: what a Play tells at the end.
func (s state) rows() [][]int {
	var named []int
	for _, x := range s.names {
		named = append(named, x.Key, x.Value)
	}
	rows := [][]int{{s.epoch, len(s.free), s.faults}, s.leases, named}
	for i, list := range s.versions {
		row := []int{s.states[i]}
		if len(list) > 0 {
			x := s.slot(list[0])
			row = append(row, x.Node.B, x.Mark)
			for _, pair := range s.pairsOf(x.Node.A) {
				row = append(row, pair.Key, pair.Value)
			}
		}
		rows = append(rows, row)
	}
	return rows
}

// used: how many slots are in use.
func (s state) used() int {
	n := 0
	for _, x := range s.slots {
		n += x.Gen % 2
	}
	return n
}

// model: a store, and what it is made of.
type model struct {
	slots     []api.Slot // that of 0 is idle
	top, tag  int        // of the pool's pile
	next      []int
	faults    int
	stamp     int
	leases    []int
	names     []api.Pair // of each name its word
	tables    int        // how many were published
	epoch     int
	at        []int
	depth     []int
	waits     [][]waits
	heads     []int
	sets      map[int][]int // by handle
	states    []int
	fails     []int
	pairs     [][]api.Pair
	registers [8][4]api.Snap
	stops     []func()
	plays     bool // it knows Play's calls alone
	films     bool
	film      []state // behind each step, if it films
}

func newModel(s api.Setup) *model {
	m := &model{
		slots: make([]api.Slot, s.Slots+1), top: 1, next: make([]int, s.Slots+1), stamp: 1, leases: make([]int, s.Leases),
		epoch: 1, at: make([]int, s.Workers), depth: make([]int, s.Workers), waits: make([][]waits, s.Workers),
		heads: make([]int, s.Parts), sets: map[int][]int{}, states: make([]int, s.Parts), fails: make([]int, s.Parts), pairs: make([][]api.Pair, s.Parts),
	}
	for i := 1; i < s.Slots; i++ {
		m.next[i] = i + 1
	}
	for i := range s.Parts {
		m.fails[i] = s.Fails
	}
	for _, x := range s.Source {
		i := partOf(x.Key, s.Parts)
		m.pairs[i] = append(m.pairs[i], x)
	}
	return m
}

// told: what there is now; the model goes on.
func (m *model) told() state {
	s := state{
		states: slices.Clone(m.states), slots: slices.Clone(m.slots[1:]), faults: m.faults, stamp: m.stamp, leases: slices.Clone(m.leases),
		epoch: m.epoch, at: slices.Clone(m.at), registers: m.registers,
	}
	for i := m.top; i != 0; i = m.next[i] {
		s.free = append(s.free, i)
	}
	for _, x := range m.names {
		s.names = append(s.names, api.Pair{Key: x.Key, Value: x.Value % (1 << 40)})
	}
	for _, h := range m.heads {
		var list []int
		var sets [][]int
		for m.inUse(h) && len(list) < len(s.slots) {
			list, sets = append(list, h), append(sets, m.sets[h])
			h = m.slots[h>>40].Link
		}
		s.versions, s.sets = append(s.versions, list), append(s.sets, sets)
	}
	for _, list := range m.waits {
		var handles []int
		for _, x := range list {
			handles = append(handles, x.handle)
		}
		s.waiting = append(s.waiting, handles)
	}
	return s
}

// isHandle tells whether h is a handle of a slot of the pool.
func (m *model) isHandle(h int) bool {
	return h > 0 && h>>40 >= 1 && h>>40 < len(m.slots) && h%2 == 1
}

func (m *model) inUse(h int) bool { return m.isHandle(h) && m.slots[h>>40].Gen == h%(1<<40) }

// ofKey does a call of a key's part, or of a Many's.
func (d doing) ofKey(c api.Call) (api.Told, api.Errno) {
	n := target(c, len(d.states))
	if n < 0 {
		return d.refuse(161)
	}
	return d.ofPart(n, c)
}

// versionAt: of a part, by a stamp: Ready, At, Read.
func (d doing) versionAt(part, stamp int) (api.Node, api.Errno) {
	if err := d.come(part, false); err != 0 {
		return api.Node{}, err
	}
	h, err := d.shown(part, stamp)
	if err != 0 {
		return api.Node{}, err
	}
	s, err := d.meet(h)
	if err != 0 {
		return api.Node{}, err
	}
	return s.Node, 0
}

func (d doing) view(x api.Snap, part int) (api.Node, api.Errno) {
	if part < 0 || part >= len(d.states) {
		d.step()
		return api.Node{}, 151
	}
	if !d.holds(x) {
		return api.Node{}, 182
	}
	return d.versionAt(part, x.Stamp)
}

// foundIn: Find in a version, if it was read well.
func (d doing) foundIn(version api.Node, err api.Errno, key int) (api.Told, api.Errno) {
	if err != 0 {
		return api.Told{}, err
	}
	value, had, err := d.find(version.A, key)
	if err != 0 {
		return api.Told{}, err
	}
	return api.Told{Value: value, Had: had, Number: version.B}, 0
}

func (d doing) peek(x api.Snap, key int) (api.Told, api.Errno) {
	if !isKey(key) {
		return d.refuse(161)
	}
	version, err := d.view(x, partOf(key, len(d.states)))
	return d.foundIn(version, err, key)
}

func (d doing) name(name int, x api.Snap) api.Errno {
	index := x.Lease + 1
	if index < 0 || index > 1<<20-1 {
		d.step()
		return 10
	}
	if x.Stamp < 0 || x.Stamp > 1<<40-1 {
		d.step()
		return 11
	}
	laid, err := d.add(name, word(index, x.Stamp))
	if err == 0 && !laid {
		return 183
	}
	return err
}

func (d doing) unname(name int) api.Errno {
	is, err := d.takeDown(name)
	if err != 0 {
		return err
	}
	return d.release(is>>40 - 1)
}

func (d doing) peekNamed(name, key int) (api.Told, api.Errno) {
	if !isKey(key) {
		return d.refuse(161)
	}
	if err := d.enter(); err != 0 {
		return api.Told{}, err
	}
	is, err := d.look(name)
	if err != 0 {
		d.leave()
		return api.Told{}, err
	}
	version, err := d.versionAt(partOf(key, len(d.states)), is%(1<<40))
	told, err := d.foundIn(version, err, key)
	again, gone := d.look(name)
	d.leave()
	if gone != 0 || again != is {
		return api.Told{}, 184
	}
	return told, err
}

func (d doing) allNames() []api.Pair {
	d.step()
	return d.told().names
}

// played: an answer as Play tells it.
func played(kind int, t api.Told, err api.Errno) api.Answer {
	switch {
	case err != 0:
		return api.Answer{Err: err}
	case kind == 1 || kind == 8 || kind == 11:
		return api.Answer{Ok: t.Had, N: t.Value, M: t.Number}
	case kind == 5:
		return api.Answer{Ok: t.New, N: t.Many, M: t.Number}
	}
	return api.Answer{Ok: t.New, N: t.Value, M: t.Number, Ints: []int{bit(t.Had)}}
}

func bit(b bool) int {
	if b {
		return 1
	}
	return 0
}

// went: an answer that tells a number.
func went(n int, err api.Errno) api.Answer { return api.Answer{Ok: err == 0, N: n, Err: err} }

// taken: an answer that tells a snapshot.
func taken(x api.Snap, err api.Errno) api.Answer {
	return api.Answer{Ok: err == 0, N: x.Lease, M: x.Stamp, Err: err}
}

// byRegister does a call that goes by a register.
func (d doing) byRegister(c api.Call) api.Answer {
	n := c.A
	if c.Kind == 9 {
		n = c.B
	}
	if n < 0 || n > 3 {
		d.step()
		return went(0, 180)
	}
	is := &d.registers[d.k][n]
	switch {
	case c.Kind == 6 && is.Stamp != 0:
		d.step()
		return went(0, 180)
	case c.Kind == 6:
		x, err := d.lease()
		if err != 0 {
			return went(0, err)
		}
		*is = x
		return taken(x, 0)
	case is.Stamp == 0:
		d.step()
		return went(0, 182)
	case c.Kind == 7:
		err := d.release(is.Lease)
		*is = api.Snap{}
		return went(0, err)
	case c.Kind == 9:
		err := d.name(c.A, *is)
		if err == 0 {
			*is = api.Snap{}
		}
		return went(0, err)
	}
	told, err := d.peek(*is, c.B)
	return played(8, told, err)
}

// ofTrim: P18.6.
func (d doing) ofTrim(part int) (int, api.Errno) {
	if part < 0 || part >= len(d.states) {
		d.step()
		return 0, 151
	}
	return d.trim(part)
}

// play does a call of Play's.
func (d doing) play(c api.Call) api.Answer {
	switch c.Kind {
	case 1, 2, 3, 4, 5:
		told, err := d.ofKey(c)
		return played(c.Kind, told, err)
	case 6, 7, 8, 9:
		return d.byRegister(c)
	case 10:
		return went(0, d.unname(c.A))
	case 11:
		told, err := d.peekNamed(c.A, c.B)
		return played(11, told, err)
	case 12:
		return went(d.ofTrim(c.A))
	case 13:
		return api.Answer{Ok: d.advance()}
	case 14:
		return went(d.collect())
	case 15:
		return api.Answer{Ok: true, Pairs: d.allNames()}
	case 16, 17, 18, 19:
		return d.scanned(c)
	}
	d.step()
	return api.Answer{Err: 190}
}

// named does a call by its name.
func (d doing) named(c api.Call) api.Answer {
	x := api.Snap{Lease: c.A, Stamp: c.B}
	switch c.Kind {
	case kindFreeBy:
		return went(0, d.release(c.A))
	case kindTake:
		return taken(d.lease())
	case kindRangeBy, kindCountBy, kindPageBy, kindDiffBy:
		return d.scannedBy(x, c)
	}
	return d.below(c)
}

// below does a call of the layers below.
func (d doing) below(c api.Call) api.Answer {
	switch c.Kind {
	case kindSlot:
		return went(d.take(api.Node{A: c.A, B: c.B, C: c.C, D: c.Pairs[0].Key}, 0))
	case kindGive:
		return went(0, d.give(c.A))
	case kindFirst:
		return went(d.first(c.A, api.Node{A: c.B, B: c.C}))
	case kindPush:
		h, _, err := d.newest(c.A)
		if err != 0 {
			return went(0, err)
		}
		ok, err := d.push(c.A, h, api.Node{A: c.B, B: c.C}, nil)
		return api.Answer{Ok: ok, Err: err}
	case kindRetire:
		return went(0, d.retire(c.A))
	case kindReady:
		return went(0, d.come(c.A, false))
	case kindLink:
		s, err := d.meet(c.A)
		if err != 0 {
			return went(0, err)
		}
		was := s.Link
		s.Link = c.B
		return went(was, 0)
	case kindMark:
		s, err := d.meet(c.A)
		ok := err == 0 && s.Mark == c.B
		if ok {
			s.Mark = c.C
		}
		return api.Answer{Ok: ok, Err: err}
	}
	return d.play(c)
}

// cutOff: a call of the model's is let go.
type cutOff struct{}

// begins tells a call line by line.
func (m *model) begins(k int, c api.Call) line {
	var a api.Answer
	next, stop := iter.Pull(func(yield func(int) bool) {
		defer func() {
			if r := recover(); r != nil && r != any(cutOff{}) {
				panic(r)
			}
		}()
		d := doing{m, k, func() {
			if !yield(0) {
				panic(cutOff{})
			}
		}}
		if m.plays {
			a = d.play(c)
		} else {
			a = d.named(c)
		}
	})
	m.stops = append(m.stops, stop)
	_, more := next() // up to its first line
	return func() (api.Answer, bool) {
		if more {
			_, more = next()
		}
		if m.films {
			m.film = append(m.film, m.told())
		}
		return a, !more
	}
}

// run does a case, line by line; next tells whose step is next, nil: the case does.
func (m *model) run(c api.Case, next func(m *runModel, ready []int) int) (api.Run, []pick) {
	run, picks := modelRun(c, m.begins, next)
	for _, stop := range m.stops {
		stop()
	}
	m.stops = nil
	return run, picks
}

// alone does a call of worker 0 with all its lines at once; Own tells how many.
func (m *model) alone(c api.Call) api.Answer {
	lines := 0
	a := doing{m, 0, func() { lines++ }}.named(c)
	a.Own = lines
	return a
}
