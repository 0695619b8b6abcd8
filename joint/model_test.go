package joint_test

import (
	"slices"
	"strconv"

	"skein/api"
)

// next: a call's next line; it tells the one behind it, or, if there is none, the answer.
type next func() (api.Answer, next)

// told: what is done within the last line of something, when it has told a number.
type told func(n int) (api.Answer, next)

// end: the call has ended with this line.
func end(a api.Answer) (api.Answer, next) { return a, nil }

// on: the call goes on with another line.
func on(n next) (api.Answer, next) { return api.Answer{}, n }

func failing(err api.Errno) next {
	return func() (api.Answer, next) { return end(failed(err)) }
}

// tags: how many there are; a word is a number times this, and its tag.
const tags = 1 << 40

func packed(n, tag int) int { return n*tags + tag }

// under: what stands in a cell while the d-th descriptor of worker k is under way in it, the first one being 1.
func under(k, d int) int { return -(k + 8*(d-1) + 1) }

// need: an entry of a descriptor: a cell, its old word, what it is to hold.
type need struct{ cell, old, new int }

// plan: a descriptor, and which call of its worker made it.
type plan struct {
	needs        []need
	status       int
	worker, call int
}

// moment: at which step which call was done.
type moment struct{ worker, call, step int }

// joined: cells as the chapter's lines say it.
type joined struct {
	words []int
	plans map[int]*plan
	made  [8]int
	begun [8]int
	steps int
	dones []moment
	ways  map[string]int // which way lines went
}

func newJoined(first []int) *joined {
	m := &joined{plans: map[int]*plan{}, ways: map[string]int{}}
	for _, n := range first {
		m.words = append(m.words, packed(n, 0))
	}
	return m
}

func (m *joined) way(name string) { m.ways[name]++ }

// load: times tells how often it has found a descriptor.
func (m *joined) load(c, times int, then told) next {
	return func() (api.Answer, next) {
		v := m.words[c]
		if v >= 0 {
			m.way("a load that found a descriptor " + strconv.Itoa(times) + " times")
			return then(v)
		}
		return on(m.help(-v-1, 1, func(int) (api.Answer, next) { return on(m.load(c, times+1, then)) }))
	}
}

// loads: all of these cells, one behind the other, till one isn't as it must be.
func (m *joined) loads(cells, got []int, fits func(c, w int) api.Errno, then func(words []int) (api.Answer, next)) next {
	return m.load(cells[len(got)], 0, func(w int) (api.Answer, next) {
		if err := fits(cells[len(got)], w); err != api.OK {
			return end(failed(err))
		}
		all := append(slices.Clone(got), w)
		if len(all) < len(cells) {
			return on(m.loads(cells, all, fits, then))
		}
		return then(all)
	})
}

// help: deep tells in how many others' help it is.
func (m *joined) help(d, deep int, then told) next {
	m.way("help " + strconv.Itoa(deep) + " deep")
	return m.entry(d, 0, deep, then)
}

func (m *joined) entry(d, i, deep int, then told) next {
	p := m.plans[d]
	if i == len(p.needs) {
		return m.decide(d, 1, then)
	}
	e, first := p.needs[i], "first"
	if i > 0 {
		first = "later"
	}
	third := func() (api.Answer, next) {
		v := m.words[e.cell]
		switch {
		case v == -(d + 1):
			m.way("3: this one")
			return on(m.entry(d, i+1, deep, then))
		case v < 0:
			m.way("3: another one")
			return on(m.help(-v-1, deep+1, func(int) (api.Answer, next) { return on(m.entry(d, i, deep, then)) }))
		case v == e.old:
			m.way("3: the old word again")
		default:
			m.way("3: another word")
		}
		return on(m.decide(d, 2, then))
	}
	second := func() (api.Answer, next) {
		if m.words[e.cell] != e.old {
			return on(third)
		}
		m.way("2: done where the status is " + strconv.Itoa(p.status))
		m.words[e.cell] = -(d + 1)
		return on(m.entry(d, i+1, deep, then))
	}
	return func() (api.Answer, next) {
		m.way("1: " + strconv.Itoa(p.status) + ", the " + first + " entry")
		if p.status != 0 {
			return on(m.last(d, then))
		}
		return on(second)
	}
}

func (m *joined) decide(d, status int, then told) next {
	return func() (api.Answer, next) {
		p := m.plans[d]
		m.way("4: from " + strconv.Itoa(p.status) + " to " + strconv.Itoa(status))
		if p.status == 0 {
			p.status = status
			if status == 1 {
				m.dones = append(m.dones, moment{p.worker, p.call, m.steps})
			}
		}
		return on(m.last(d, then))
	}
}

func (m *joined) last(d int, then told) next {
	return func() (api.Answer, next) { return on(m.release(d, m.plans[d].status, 0, then)) }
}

func (m *joined) release(d, status, i int, then told) next {
	return func() (api.Answer, next) {
		e, lost := m.plans[d].needs[i], "lost"
		if m.words[e.cell] == -(d + 1) {
			lost = "won"
			m.words[e.cell] = e.old
			if status == 1 {
				m.words[e.cell] = packed(e.new, (e.old%tags+1)%tags)
			}
		}
		m.way("6: " + strconv.Itoa(status) + ", " + lost)
		if i+1 < len(m.plans[d].needs) {
			return on(m.release(d, status, i+1, then))
		}
		return then(status)
	}
}

// carry makes a descriptor and helps it; behind one that isn't to be comes again.
func (m *joined) carry(k, call int, needs []need, a api.Answer, again next) (api.Answer, next) {
	if m.made[k] == 1024 {
		return end(failed(api.ErrJointMany))
	}
	d := k + 8*m.made[k]
	m.made[k]++
	m.plans[d] = &plan{needs: needs, worker: k, call: call}
	return on(m.help(d, 0, func(status int) (api.Answer, next) {
		if status == 1 {
			return end(a)
		}
		m.way("A again")
		return on(again)
	}))
}

func fits(int, int) api.Errno { return api.OK }

func (m *joined) change(k, call int, l []api.Entry) next {
	var cells []int
	by := map[int]api.Entry{}
	for _, e := range l {
		cells = append(cells, e.Cell)
		by[e.Cell] = e
	}
	slices.Sort(cells)
	must := func(c, w int) api.Errno {
		if w/tags != by[c].Old {
			return api.ErrJointOther
		}
		return api.OK
	}
	return m.loads(cells, nil, must, func(words []int) (api.Answer, next) {
		var needs []need
		for i, c := range cells {
			needs = append(needs, need{c, words[i], by[c].New})
		}
		return m.carry(k, call, needs, well(), m.change(k, call, l))
	})
}

func (m *joined) move(k, call, from, to, n int) next {
	return m.loads([]int{min(from, to), max(from, to)}, nil, fits, func(words []int) (api.Answer, next) {
		out, in := words[0], words[1]
		if to < from {
			out, in = in, out
		}
		if out/tags < n {
			return end(failed(api.ErrJointLess))
		}
		if in/tags+n > 1048575 {
			return end(failed(api.ErrJointValue))
		}
		needs := []need{{from, out, out/tags - n}, {to, in, in/tags + n}}
		slices.SortFunc(needs, func(a, b need) int { return a.cell - b.cell })
		return m.carry(k, call, needs, well(), m.move(k, call, from, to, n))
	})
}

func (m *joined) look(k, call int) next {
	var cells []int
	for c := range m.words {
		cells = append(cells, c)
	}
	return m.loads(cells, nil, fits, func(words []int) (api.Answer, next) {
		var needs []need
		var values []int
		for c, w := range words {
			needs, values = append(needs, need{c, w, w / tags}), append(values, w/tags)
		}
		return m.carry(k, call, needs, shows(values...), m.look(k, call))
	})
}

// unfit tells why a Change can't be.
func (m *joined) unfit(l []api.Entry) api.Errno {
	if len(l) == 0 || len(l) > 64 {
		return 261
	}
	seen := map[int]int{}
	for _, e := range l {
		if seen[e.Cell]++; e.Cell < 0 || e.Cell >= len(m.words) || seen[e.Cell] > 1 {
			return 262
		}
	}
	for _, e := range l {
		if min(e.Old, e.New) < 0 || max(e.Old, e.New) > 1048575 {
			return 263
		}
	}
	return 0
}

// entriesOf: what pairs tell; false: nothing.
func entriesOf(pairs []api.Pair) ([]api.Entry, bool) {
	var l []api.Entry
	for len(pairs) > 1 && pairs[0].Key == pairs[1].Key {
		l = append(l, api.Entry{Cell: pairs[0].Key, Old: pairs[0].Value, New: pairs[1].Value})
		pairs = pairs[2:]
	}
	return l, len(pairs) == 0
}

func (m *joined) isCell(c int) bool { return c >= 0 && c < len(m.words) }

func (m *joined) lines(k, call int, c api.Call) next {
	switch c.Kind {
	case 1:
		if !m.isCell(c.A) {
			return failing(262)
		}
		return m.load(c.A, 0, func(w int) (api.Answer, next) { return end(holds(w / tags)) })
	case 2:
		l, told := entriesOf(c.Pairs)
		if !told {
			return failing(260)
		}
		if err := m.unfit(l); err != api.OK {
			return failing(err)
		}
		return m.change(k, call, l)
	case 3:
		if !m.isCell(c.A) || !m.isCell(c.B) || c.A == c.B {
			return failing(262)
		}
		if c.C < 0 || c.C > 1048575 {
			return failing(263)
		}
		return m.move(k, call, c.A, c.B, c.C)
	case 4:
		return m.look(k, call)
	}
	return failing(260)
}

// model: cells side by side, and what was filmed.
type model struct {
	all  []*joined
	film [][]int
}

func newModel(firsts ...[]int) *model {
	m := &model{}
	for _, first := range firsts {
		m.all = append(m.all, newJoined(first))
	}
	return m
}

// frame: all words, and of each worker how many descriptors it made, and what their statuses are.
func (m *model) frame() []int {
	var list []int
	for _, x := range m.all {
		list = append(list, x.words...)
		for k, made := range x.made {
			list = append(list, made)
			for i := range made {
				list = append(list, x.plans[k+8*i].status)
			}
		}
	}
	return list
}

// filmed: a line of a call that never ends.
func (m *model) filmed() (api.Answer, bool) {
	m.film = append(m.film, m.frame())
	return api.Answer{}, false
}

func (m *model) begin(k int, c api.Call) line {
	if c.Kind == filming {
		return m.filmed
	}
	of := m.all[0]
	if c.Kind > ofSecond && len(m.all) > 1 {
		of = m.all[1]
		c.Kind -= ofSecond
	}
	n := of.lines(k, of.begun[k], c)
	of.begun[k]++
	return func() (api.Answer, bool) {
		of.steps++
		a, then := n()
		n = then
		return a, n == nil
	}
}

// alone does a call of worker 0 with all its lines at once.
func (m *model) alone(c api.Call) api.Answer {
	l := m.begin(0, c)
	for {
		if a, ended := l(); ended {
			return a
		}
	}
}

// values: what Read of each cell, alone, tells.
func (m *model) values() []int {
	var list []int
	for c := range m.all[0].words {
		list = append(list, m.alone(read(c)).N)
	}
	return list
}
