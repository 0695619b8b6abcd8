package joint_test

import (
	"slices"

	"skein/api"
)

var (
	farNumbers = []int{lowest, lowest + 1, -1 << 32, -65, -2, -1, 0, 1, 2, 63, 64, 65, 1 << 32, highest - 1, highest}
	fewHalts   = []int{lowest, -1, 0, 0, 0, 1, 2, 3, 4, 5, 6, 8, 12, 20, highest}
	fewUntils  = []int{0, 0, 0, 0, 1, 2, 3, 7, 15, 40, 19999, 20000}
)

// manners: which calls come.
type manners struct {
	wild  bool // calls that can't be
	both  bool // calls of second Cells
	stops bool // halts and cuts always
	moves bool // but Moves, Looks and Reads none
}

// wild: a call that can't be.
func (m *mixer) wild(n int) api.Call {
	c := m.below(n)
	bad := []api.Call{
		{Kind: 0}, {Kind: -1}, {Kind: 5}, {Kind: lowest}, {Kind: highest},
		read(m.one(noCells(n))), move(m.one(noCells(n)), c, 1), move(c, m.one(noCells(n)), 1), move(c, c, 1), move(0, n-1, m.one(noValues)),
		change(), change(to(m.one(noCells(n)), 0, 1)), change(to(c, 0, 1), to(c, 0, 1)), change(to(c, m.one(noValues), 1)), change(to(c, 1, m.one(noValues))),
		{Kind: 2, Pairs: []api.Pair{{Key: c}}}, {Kind: 2, Pairs: []api.Pair{{Key: c}, {Key: c + 1}}},
	}
	return bad[m.below(len(bad))]
}

// change: of some cells, in any order.
func (m *mixer) change(n int) api.Call {
	var cells []int
	for range 1 + m.below(n) {
		if c := m.below(n); !slices.Contains(cells, c) {
			cells = append(cells, c)
		}
	}
	var l []api.Entry
	for _, c := range cells {
		l = append(l, to(c, m.below(2), m.below(2)))
	}
	return change(l...)
}

func (m *mixer) call(n int, how manners) api.Call {
	if how.wild && m.below(8) == 0 {
		return m.wild(n)
	}
	var c api.Call
	switch kind := m.below(10); {
	case kind < 4 && !how.moves:
		c = m.change(n)
	case kind < 7 && n > 1:
		from := m.below(n)
		c = move(from, (from+1+m.below(n-1))%n, m.below(3))
	case kind < 9:
		c = look()
	default:
		c = read(m.below(n))
	}
	if how.both && m.below(2) == 0 {
		return second(c)
	}
	return c
}

// mixed: what a run is of.
type mixed struct {
	first []int
	c     api.Case
}

func (m *mixer) mixed(how manners) mixed {
	n := 1 + m.below(4)
	var x mixed
	for range n {
		x.first = append(x.first, m.one([]int{0, 0, 1, 1, 1, 2, 1048574, 1048575}))
	}
	for range 1 + m.below(5) {
		var calls []api.Call
		for range m.below(7) {
			calls = append(calls, m.call(n, how))
		}
		x.c.Work = append(x.c.Work, calls)
	}
	// Who goes on for some lines stands in others' way, or finds that they stand in its own.
	for range m.below(80) {
		k, times := m.one(farNumbers)+m.below(8), 1
		if m.below(2) == 0 {
			times = m.below(4*n + 4)
		}
		x.c.Turns = append(x.c.Turns, slices.Repeat([]int{k}, times)...)
	}
	if how.stops || m.below(2) == 0 {
		for range m.below(6) {
			x.c.Halt = append(x.c.Halt, m.one(fewHalts))
		}
		x.c.Until = m.one(fewUntils)
	}
	return x
}

// mixedRuns calls f with so many cases.
func mixedRuns(seed, count int, how manners, f func(x mixed)) {
	m := mixer(seed)
	for range count {
		f(m.mixed(how))
	}
}
