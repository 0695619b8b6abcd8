package scan_test

import (
	"slices"

	"skein/api"
)

var (
	badParts     = []int{lowest, lowest + 1, -1 << 32, -64, -1, mostParts + 1, mostParts + 2, 128, 1 << 32, 1<<32 + 1, highest - 1, highest}
	badLeases    = []int{lowest, lowest + 1, -1 << 32, -64, -1, mostLeases, mostLeases + 1, mostLeases + 2, 128, 1 << 32, 1<<32 + 1, highest - 1, highest}
	badStamps    = []int{lowest, lowest + 1, -1 << 32, -1, 0, 99, 1 << 32, 1<<40 - 1, 1 << 40, highest - 1, highest}
	badKeys      = []int{lowest, lowest + 1, -1 << 32, -4096, -2, -1, mostKey + 1, mostKey + 2, 1 << 33, 1 << 40, highest - 1, highest}
	badAfters    = []int{lowest, lowest + 1, -1 << 32, -4096, -3, -2, mostKey + 1, mostKey + 2, 1 << 33, 1 << 40, highest - 1, highest}
	badPages     = []int{lowest, lowest + 1, -1 << 32, -1000, -1, 0, mostPage + 1, mostPage + 2, 4096, 1 << 32, 1<<32 + 1, highest - 1, highest}
	badWorkers   = []int{lowest, lowest + 1, -1 << 32, -8, -1, 0, 9, 10, 64, 1 << 32, 1<<32 + 1, highest - 1, highest}
	badRegisters = []int{lowest, lowest + 1, -1 << 32, -4, -1, 4, 5, 8, 1 << 32, 1<<32 + 1, highest - 1, highest}
	badKinds     = []int{lowest, lowest + 1, -19, -16, -1, 0, 20, 21, 32, 101, 119, 1<<32 + 16, highest - 1, highest}
	farNumbers   = []int{lowest, lowest + 1, -1 << 32, api.Poison, -65, -2, -1, 0, 1, 2, 63, 64, 65, 1 << 32, 1<<40 + 1, 2<<40 + 1, highest - 1, highest}
	fewKeys      = []int{0, 1, 2, 3, 5, 1 << 31, 1<<31 + 1, far, mostKey}
	fewEnds      = []int{0, 0, 0, 1, 2, 3, 4, 1<<31 - 1, 1 << 31, 1<<31 + 1, far, mostKey - 1, mostKey, mostKey, mostKey}
	fewHalts     = []int{lowest, -1, 0, 0, 0, 0, 1, 2, 3, 5, 8, 12, 20, 33, 60, 90, highest}
	fewUntils    = []int{1, 2, 3, 7, 15, 40, 90, 200}
)

// manners: which calls come.
type manners struct {
	wild  bool // calls that can't be; keys, registers, names, parts, pages that there aren't
	named bool // calls that Play hasn't, by which stores are spoilt
	busy  bool // few keys, few parts, and many snapshots and Trims
}

func (m *mixer) key(how manners) int {
	switch {
	case how.wild && m.below(12) == 0:
		return m.one(badKeys)
	case how.busy:
		return m.one(fewKeys[:5])
	}
	return m.one(fewKeys)
}

// end: where a range begins, or ends.
func (m *mixer) end(how manners) int {
	if how.wild && m.below(12) == 0 {
		return m.one(badKeys)
	}
	return m.one(fewEnds)
}

// ends: those of a range; more often than not the first one isn't above the second one.
func (m *mixer) ends(how manners) (int, int) {
	lo, hi := m.end(how), m.end(how)
	if lo > hi && m.below(8) > 0 {
		return hi, lo
	}
	return lo, hi
}

// page: behind which key, and how many.
func (m *mixer) page(how manners) (int, int) {
	after, n := m.one([]int{-1, -1, 0, 1, 2, 1 << 31, far, mostKey - 1, mostKey}), 1+m.below(4)
	if how.wild && m.below(10) == 0 {
		after = m.one(badAfters)
	}
	if how.wild && m.below(10) == 0 {
		n = m.one(badPages)
	}
	return after, n
}

func (m *mixer) value() int {
	if m.below(6) == 0 {
		return m.one(farNumbers)
	}
	return m.below(4)
}

func (m *mixer) pairs(how manners, most int) []api.Pair {
	var list []api.Pair
	for range m.below(most + 1) {
		list = append(list, api.Pair{Key: m.key(how), Value: m.value()})
	}
	return list
}

var (
	anyKinds  = []int{1, 2, 2, 2, 2, 3, 4, 5, 5, 6, 6, 6, 7, 8, 8, 9, 10, 11, 12, 12, 13, 13, 14, 15, 16, 16, 16, 16, 17, 17, 17, 18, 18, 18, 19, 19, 19, 19}
	busyKinds = []int{1, 2, 2, 2, 2, 2, 3, 5, 6, 6, 6, 7, 8, 9, 10, 11, 12, 12, 12, 12, 13, 13, 13, 13, 14, 14, 14, 14, 16, 16, 16, 17, 18, 19, 19, 19}
)

func (m *mixer) call(how manners, parts int) api.Call {
	if how.named && m.below(3) == 0 {
		return m.namedCall(how, parts)
	}
	kinds := anyKinds
	if how.busy {
		kinds = busyKinds
	}
	c := api.Call{Kind: m.one(kinds)}
	switch c.Kind {
	case 1, 2, 3, 4:
		c.A, c.B, c.C = m.key(how), m.value(), m.value()
	case 5:
		c.Pairs = m.pairs(how, 4)
	case 6, 7, 8:
		c.A, c.B = m.below(2), m.key(how)
	case 9:
		c.A, c.B = m.below(3), m.below(2)
	case 10, 11:
		c.A, c.B = m.below(3), m.key(how)
	case 12:
		c.A = m.below(parts)
	case 16, 17:
		c.A = m.below(2)
		c.B, c.C = m.ends(how)
	case 18:
		c.A = m.below(2)
		c.B, c.C = m.page(how)
	case 19:
		c.A = m.below(2)
		if c.B = 1 - c.A; m.below(6) == 0 {
			c.B = c.A
		}
	}
	if how.wild && m.below(10) == 0 {
		c.Kind = m.one(badKinds)
	}
	if how.wild && m.below(8) == 0 {
		c.A = m.one([]int{0, 1, 2, 3, m.one(badRegisters), m.one(badKeys)})
	}
	if how.wild && m.below(8) == 0 {
		c.B = m.one([]int{0, 1, 2, 3, m.one(badRegisters)})
	}
	return c
}

// snapshot: one that may be held, or not.
func (m *mixer) snapshot() api.Snap {
	if m.below(8) == 0 {
		return at(m.one(farNumbers), m.one(farNumbers))
	}
	return at(m.below(2), 1+m.below(3))
}

// namedCall: one that Play hasn't.
func (m *mixer) namedCall(how manners, parts int) api.Call {
	h := word(1+m.below(8), 1+2*m.below(2))
	part := m.below(parts)
	lo, hi := m.ends(manners{wild: true})
	after, n := m.page(manners{wild: true})
	switch m.below(24) {
	case 0, 1, 2:
		return left(rangeBy(m.snapshot(), lo, hi), m.one([]int{0, 0, 1, 2, 3}))
	case 3, 4, 5:
		return countBy(m.snapshot(), lo, hi)
	case 6, 7:
		return pageBy(m.snapshot(), after, n)
	case 8, 9, 10:
		return left(diffBy(m.snapshot(), m.snapshot()), m.one([]int{0, 0, 1, 2, 3}))
	case 11:
		return freeBy(m.one([]int{0, 1, 2, m.one(farNumbers)}), m.below(3))
	case 12:
		return lease()
	case 13:
		return slot(m.one([]int{0, 1, 2, 65}), m.one([]int{0, h, 3}), m.one([]int{0, h}), m.below(3))
	case 14, 15:
		return give(h)
	case 16:
		return first(part, m.one([]int{0, h}), 1+m.below(3))
	case 17, 18, 19:
		return publish(part, m.one([]int{0, h, h, 7}), m.below(9))
	case 20:
		return retire(m.one([]int{h, m.one(farNumbers)}))
	case 21:
		return ready(m.one([]int{part, m.one(badParts)}))
	case 22:
		return link(h, m.one([]int{-1, 0, 5, word(1, 2)}))
	}
	return mark(h, m.below(2), 1+m.below(3))
}

// hopes: which registers of a worker hold something, and which names stand, as far as can be told ahead.
type hopes struct {
	full  [2]bool
	stand *[3]bool
}

// likely makes that a call by a register, or by a name, finds more often than not what it looks for.
func (m *mixer) likely(c api.Call, h *hopes) api.Call {
	r := &c.A
	if c.Kind == 9 {
		r = &c.B
	}
	byRegister := c.Kind >= 7 && c.Kind <= 9 || c.Kind >= 16 && c.Kind <= 19
	byName := c.Kind == 10 || c.Kind == 11
	switch {
	case m.below(6) == 0 || c.Kind != 6 && !byRegister && !byName || *r < 0 || *r > 1:
	case byName && !slices.Contains(h.stand[:], true) && h.full[*r]:
		c = name(m.below(3), *r)
	case byName && !slices.Contains(h.stand[:], true), byRegister && !h.full[*r]:
		c = snap(*r)
	case c.Kind == 19 && c.B >= 0 && c.B < 2 && !h.full[c.B]:
		c = snap(c.B)
	case c.Kind == 6 && h.full[*r]:
		c = ranged(*r, 0, mostKey)
	case byName:
		for c.A < 0 || c.A > 2 || !h.stand[c.A] {
			c.A = m.below(3)
		}
	}
	switch {
	case c.Kind == 6 && c.A >= 0 && c.A < 2:
		h.full[c.A] = true
	case c.Kind == 7 && c.A >= 0 && c.A < 2:
		h.full[c.A] = false
	case c.Kind == 9 && c.A >= 0 && c.A < 3 && c.B >= 0 && c.B < 2:
		h.full[c.B], h.stand[c.A] = false, true
	case c.Kind == 10 && c.A >= 0 && c.A < 3:
		h.stand[c.A] = false
	}
	return c
}

func (m *mixer) setup(how manners) api.Setup {
	s := api.Setup{
		Parts:   m.one([]int{1, 1, 2, 2, 3, 5}),
		Workers: m.one([]int{1, 2, 3, 4, 4, 4, 4, 8}),
		Slots:   m.one([]int{1, 2, 4, 6, 8, 12, 16, 24, 40, 40, 60, 60}),
		Leases:  m.one([]int{1, 1, 2, 2, 3, 3, 8, mostLeases}),
		Source:  m.pairs(manners{}, 8),
		Fails:   m.one([]int{0, 0, 0, 0, 0, 1, 2, -1, lowest}),
	}
	if how.busy {
		s.Parts, s.Workers, s.Slots, s.Fails = 1+m.below(2), 4, m.one([]int{16, 20, 30, 50}), 0
		s.Leases = 2 + m.below(3)
	}
	return s
}

func (m *mixer) mixed(how manners) mixed {
	x := mixed{s: m.setup(how), named: how.named}
	stand := new([3]bool)
	for k := range 1 + m.below(4) {
		var calls []api.Call
		h := &hopes{stand: stand}
		if m.below(2) == 0 {
			calls = []api.Call{put(m.one(fewKeys[:3]), m.value()), snap(0), put(m.one(fewKeys[:3]), m.value()), snap(1)}
			h.full[0], h.full[1] = true, true
		}
		if k == 0 && m.below(2) == 0 {
			x.c.Turns = make([]int, m.below(80))
		}
		for range m.below(14) {
			calls = append(calls, m.likely(m.call(how, x.s.Parts), h))
		}
		x.c.Work = append(x.c.Work, calls)
	}
	for range m.below(120) {
		x.c.Turns = append(x.c.Turns, m.one(farNumbers)+m.below(8))
	}
	// A worker that goes on for some time makes that others meet what it left.
	for range m.below(12) {
		k, times := m.below(8), m.below(40)
		x.c.Turns = append(x.c.Turns, slices.Repeat([]int{k}, times)...)
	}
	if m.below(2) == 0 {
		for range m.below(7) {
			x.c.Halt = append(x.c.Halt, m.one(fewHalts))
		}
		if m.below(3) == 0 {
			x.c.Until = m.one(fewUntils)
		}
	}
	return x
}

// mixedPlays calls f with so many Plays' arguments.
func mixedPlays(count int, how manners, f func(x mixed)) {
	m := mixer(count)
	for range count {
		f(m.mixed(how))
	}
}
