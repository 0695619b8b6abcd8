package audit_test

import (
	"reflect"
	"slices"
	"testing"

	"skein/api"
	"skein/audit"
	"skein/store"
)

// seen: what was looked at, so that the cases aren't too plain.
type seen struct {
	moments, shared, old, waiting, other, still, trims, rests, twos int
}

func (n *seen) add(m *store.Store, open int) {
	uses := audit.Uses(m)
	sums := audit.Sums(uses)
	n.moments++
	n.shared += min(1, count(uses, func(x api.Use) bool { return x.Kind == 3 && x.From < x.To }))
	n.old += min(1, count(audit.Trims(m), func(x int) bool { return x > 0 }))
	n.waiting += min(1, sums.Waiting)
	n.other += min(1, sums.Other)
	if open == 0 {
		n.still++
	}
	if audit.Rest(m) {
		n.rests++
	}
	if slices.Contains(audit.Trims(m), 0) && slices.Max(audit.Trims(m)) > 0 {
		n.twos++
	}
}

// P23.5, P23.6, P32.13: at each moment of mixed runs.
func TestMomentsOfMixedRuns(t *testing.T) {
	takesLong(t)
	var m mixer = 235
	var n seen
	for i := range 150 {
		x := m.busyCase()
		x.c.Turns = m.turns(400)
		if i%3 == 1 {
			m.wild(x.c)
		}
		if i%3 == 2 {
			x.c.Halt = m.halts(len(x.c.Work), 150)
		}
		film(t, x, func(m *store.Store, open int) {
			lawful(t, m, open)
			n.add(m, open)
		})
	}
	if n.moments < 20000 || n.shared < 3000 || n.old < 3000 || n.waiting < 3000 || n.other < 3000 || n.still < 300 || n.rests < 50 || n.twos < 1000 {
		t.Errorf("the cases are too plain: %+v", n)
	}
}

// atEachUntil does a case up to each of its steps, and holds what Play answers against the map behind the same run; each part's Trims against what a Trim of it, done alone, retires.
func atEachUntil(t *testing.T, x mixed, n *seen) {
	t.Helper()
	whole, _, err := audit.Play(x.s, x.c)
	if err != api.OK {
		t.Fatalf("Play(%+v): %v", x, err)
	}
	for until := 1; until <= whole.Steps; until++ {
		x.c.Until = until
		m, want := ran(t, x.s, x.c)
		run, a, err := audit.Play(x.s, x.c)
		if err != api.OK || !reflect.DeepEqual(run, want) {
			t.Fatalf("P23.4: Play(%+v): %+v, %v, want %+v", x, run, err, want)
		}
		if is := (api.Audit{Uses: audit.Uses(m), Trims: audit.Trims(m), Least: audit.Least(m), Rest: audit.Rest(m)}); !reflect.DeepEqual(a, is) {
			t.Fatalf("P23.4: Play(%+v): %+v, want %+v", x, a, is)
		}
		lawful(t, m, len(run.Open))
		n.add(m, len(run.Open))
		for part := range x.s.Parts {
			wantTrimmed(t, x, part, a)
			n.trims += min(1, a.Trims[part])
		}
	}
}

// wantTrimmed does a case over a map, and then a Trim of a part, alone: it must retire as many as was told; of that part nothing is left then, and of others all.
func wantTrimmed(t *testing.T, x mixed, part int, a api.Audit) {
	t.Helper()
	m, _ := ran(t, x.s, x.c)
	if n := retires(m, part); n != a.Trims[part] {
		t.Fatalf("P23.7: %+v: the Trim of part %d retires %d, want %d", x, part, n, a.Trims[part])
	}
	want := slices.Clone(a.Trims)
	want[part] = 0
	wantTrims(t, "P23.7", m, want...)
	if n := audit.Least(m); n != a.Least {
		t.Fatalf("P23.7: %+v: behind a Trim Least is %d, want %d", x, n, a.Least)
	}
}

// P23.5, P23.7: at every Until of small runs of two workers, in all orders of some lines.
func TestEveryUntilOfTwo(t *testing.T) {
	takesLong(t)
	s := api.Setup{Parts: 1, Workers: 2, Slots: 12, Leases: 1, Source: pairs(1, 10)}
	two := s
	two.Parts = 2
	var n seen
	for _, x := range []struct {
		s          api.Setup
		one, other []api.Call
		ahead      int // so many lines of the first worker come first
	}{
		{s, []api.Call{get(1)}, []api.Call{put(1, 5)}, 0},
		{s, []api.Call{put(1, 5)}, []api.Call{put(2, 6)}, 18},
		{s, []api.Call{put(1, 5), trim(0)}, []api.Call{snap(0), put(1, 6)}, 26},
		{s, []api.Call{put(1, 5), put(1, 6), trim(0)}, []api.Call{trim(0)}, 48},
		{s, []api.Call{put(1, 5), snap(0), put(1, 6), free(0)}, []api.Call{trim(0), advance(), advance(), collect()}, 44},
		{s, []api.Call{put(1, 5), trim(0), advance(), advance(), collect()}, []api.Call{get(1), put(1, 7)}, 44},
		{two, []api.Call{put(far, 5), many(1, 2, 3, 4)}, []api.Call{drop(1), trim(1)}, 20},
	} {
		orders(2, 6, func(turns []int) {
			c := work(x.one, x.other)
			c.Turns = append(make([]int, x.ahead), turns...)
			atEachUntil(t, mixed{x.s, c}, &n)
		})
	}
	if n.moments < 10000 || n.trims < 1000 || n.waiting < 500 || n.other < 1000 || n.shared < 100 {
		t.Errorf("the cases are too plain: %+v", n)
	}
}

// The same of three workers.
func TestEveryUntilOfThree(t *testing.T) {
	takesLong(t)
	s := api.Setup{Parts: 2, Workers: 3, Slots: 16, Leases: 2, Source: pairs(1, 10, far, 20)}
	var n seen
	for _, x := range [][][]api.Call{
		{{put(1, 5), trim(0)}, {put(1, 6)}, {snap(0), peek(0, 1)}},
		{{put(1, 5), put(far, 5)}, {trim(0), trim(1)}, {put(1, 7), trim(0)}},
	} {
		orders(3, 4, func(turns []int) {
			c := work(x...)
			for _, k := range turns {
				c.Turns = append(c.Turns, slices.Repeat([]int{k}, 7)...)
			}
			atEachUntil(t, mixed{s, c}, &n)
		})
	}
	if n.moments < 8000 || n.trims < 1000 || n.waiting < 300 || n.other < 1000 {
		t.Errorf("the cases are too plain: %+v", n)
	}
}

// P23.6: behind runs that ended, of parts with no key, with one, two, and many.
func TestBehindRuns(t *testing.T) {
	var m mixer = 236
	keys := map[int]int{}
	for i := range 300 {
		s := api.Setup{Parts: 1 + m.below(3), Workers: 4, Slots: one(&m, []int{30, 200, 400}), Leases: 2}
		most := one(&m, []int{1, 2, 3, 40})
		var c api.Case
		for range 1 + m.below(3) {
			var calls []api.Call
			for range m.below(20) {
				key := m.below(most) * 977777777 % (1 << 32)
				calls = append(calls, one(&m, []api.Call{put(key, i), put(key, m.below(3)), drop(key), get(key), trim(m.below(s.Parts)), many(key, 1, key, 2), advance(), collect(), swap(key, 1, 2)}))
			}
			c.Work = append(c.Work, calls)
		}
		c.Turns = m.turns(100)
		store, run := ran(t, s, c)
		if run.Cut || len(run.Open) > 0 {
			t.Fatalf("P23.6: %+v: %+v", c, run)
		}
		p := lawful(t, store, 0)
		for _, versions := range p.versions {
			if len(versions) > 0 {
				keys[(len(p.has(versions[0]))+1)/2]++
			}
		}
	}
	if keys[0] < 30 || keys[1] < 30 || keys[2] < 10 || keys[5]+keys[6]+keys[7]+keys[8] < 10 {
		t.Errorf("the cases are too plain: %v", keys)
	}
}
