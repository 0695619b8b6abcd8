package audit_test

import (
	"slices"
	"testing"

	"skein/api"
	"skein/crew"
	"skein/store"
)

// mixed: a Play's arguments.
type mixed struct {
	s api.Setup
	c api.Case
}

// busyCase: a case in which all write, trim and look at once, and memory comes back meanwhile.
func (m *mixer) busyCase() mixed {
	x := mixed{s: api.Setup{
		Parts: 1 + m.below(3), Workers: 4 + m.below(2), Slots: one(m, []int{8, 14, 18, 26, 40}), Leases: 1 + m.below(4),
		Source: pairs(1, 10, far, 20)[:m.below(3)], Fails: one(m, []int{0, 0, 0, 1, 2, -1}),
	}}
	for k := range 2 + m.below(3) {
		var calls []api.Call
		for i := range 7 {
			key, value, part := one(m, []int{1, 2, 3, far}), 100*k+i, m.below(x.s.Parts)
			c := [][]api.Call{
				{put(key, value)}, {put(key, value), trim(part)}, {trim(part), advance()}, {advance(), advance(), collect()}, {drop(key), trim(part)},
				{snap(0), peek(0, key), put(key, value), peek(0, key), free(0)}, {snap(0), trim(part), peek(0, key), free(0)},
				{snap(1), name(k, 1), peekNamed(k, key), unname(k), trim(part)}, {snap(2), put(key, value), trim(part)},
				{get(key), swap(key, value, value+1), swap(key, 10, value)}, {many(key, value, 1, 5, key, 6), names()}, {free(2), trim(part), collect()},
			}
			calls = append(calls, one(m, c)...)
		}
		x.c.Work = append(x.c.Work, calls)
	}
	return x
}

// turns: many, of workers that now and then go on for some time.
func (m *mixer) turns(n int) []int {
	var list []int
	for len(list) < n {
		list = append(list, slices.Repeat([]int{m.below(8)}, 1+m.below(14))...)
	}
	return list
}

// halts: of some workers, behind how many steps they do nothing more.
func (m *mixer) halts(workers, steps int) []int {
	var list []int
	for range workers {
		list = append(list, one(m, []int{0, 0, -1, 1 + m.below(steps), 1 + m.below(steps)}))
	}
	return list
}

// wild puts calls that can't be, and keys, registers, parts and names that there aren't, into a case.
func (m *mixer) wild(c api.Case) {
	for _, calls := range c.Work {
		for i := range calls {
			x := &calls[i]
			switch m.below(12) {
			case 0:
				x.Kind = one(m, []int{lowest, -1, 0, 16, 17, 101, highest})
			case 1:
				x.A = one(m, []int{lowest, -1, 4, 5, 63, 64, 1 << 32, highest})
			case 2:
				x.B = one(m, []int{lowest, -1, 4, 5, 64, 1 << 32, highest})
			case 3:
				x.Pairs = pairs(one(m, []int{-1, 1, far, 1 << 32}), 1, 2, 2)
			}
		}
	}
}

// film does a case over a new map by its turns, with a worker more, who looks behind each step, and is told how many calls are open then. It answers how often it looked.
func film(t *testing.T, x mixed, look func(m *store.Store, open int)) int {
	t.Helper()
	m := newMap(t, x.s)
	calls := store.NewCalls(m)
	n := len(x.c.Work)
	total, begun, ended, looks := 0, 0, 0, 0
	for _, list := range x.c.Work {
		total += len(list)
	}
	c := api.Case{Work: append(slices.Clone(x.c.Work), []api.Call{{}}), Halt: x.c.Halt[:min(n, len(x.c.Halt))], Until: 2 * len(x.c.Turns)}
	for _, turn := range x.c.Turns {
		c.Turns = append(c.Turns, turn, -1) // the last one that is ready is who looks
	}
	if _, err := crew.Run(c, does(func(w *crew.Worker, call api.Call) api.Answer {
		if w.Number() < n {
			begun++
			a := calls.Do(w, call)
			ended++
			return a
		}
		for looks == 0 || ended < total {
			w.Step()
			looks++
			look(m, begun-ended)
		}
		return api.Answer{}
	})); err != api.OK {
		t.Fatalf("%+v: %v", c, err)
	}
	return looks
}
