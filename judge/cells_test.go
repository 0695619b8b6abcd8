package judge_test

import (
	"slices"
	"testing"

	"skein/api"
	"skein/cell"
	"skein/crew"
	"skein/judge"
)

func call(kind, a, b, c int) api.Call { return api.Call{Kind: kind, A: a, B: b, C: c} }

// deedsOf lays the calls of a run over cells down: those that are open, or fell, as open ones; those that were refused not at all.
func deedsOf(c api.Case, run api.Run) []api.Deed {
	var l []api.Deed
	lay := func(x api.Call, a api.Answer) {
		l = append(l, api.Deed{Begin: a.Begin, End: a.End, Kind: x.Kind, A: x.A, B: x.B, C: x.C, N: a.N, Ok: a.Ok})
	}
	for k, answers := range run.Answers {
		for i, a := range answers {
			switch a.Err {
			case 0:
				lay(c.Work[k][i], a)
			case api.ErrCrewFell:
				lay(c.Work[k][i], api.Answer{Begin: a.Begin})
			}
		}
	}
	for _, o := range run.Open {
		lay(c.Work[o.Worker][len(run.Answers[o.Worker])], api.Answer{Begin: o.Begin})
	}
	return l
}

// wantOrderOf plays a case over cells that hold so much, and wants an order of it; the least one, where all can be looked at.
func wantOrderOf(t *testing.T, first []int, c api.Case, m *mixer, all [7][][]int) ([]api.Deed, []int) {
	t.Helper()
	run, _, err := cell.Play(len(first), first, c)
	if err != 0 {
		t.Fatalf("Play: %d", err)
	}
	l := deedsOf(c, run)
	shuffle(m, l)
	order, ok, err := judge.Order(first, l)
	if err != 0 || !ok || !isOrder(first, l, order) {
		t.Fatalf("P20.6: a run of %+v: Order(%v, %+v): %v, %v, %d", c, first, l, order, ok, err)
	}
	if len(l) <= 4 {
		wantPlain(t, first, l, all)
	}
	return l, order
}

// turnsOf calls f with every list of so many turns of so many workers.
func turnsOf(workers, turns int, f func(turns []int)) {
	list := make([]int, turns)
	for {
		f(slices.Clone(list))
		i := 0
		for i < turns && list[i] == workers-1 {
			list[i] = 0
			i++
		}
		if i == turns {
			return
		}
		list[i]++
	}
}

// P20.6: small cases in every order of their turns, whole, halted and cut at every step.
func TestEveryRunOfCells(t *testing.T) {
	takesLong(t)
	all := listsBelow()
	var m mixer = 6
	for _, work := range [][][]api.Call{
		{{call(6, 0, 5, 0)}, {call(6, 0, 9, 0)}},
		{{call(6, 0, 5, 0), call(7, 0, 1, 0)}, {call(7, 0, 2, 0), call(6, 0, 9, 0)}},
		{{call(2, 0, 1, 0), call(1, 0, 0, 0)}, {call(4, 0, 2, 0), call(5, 0, 1, 7)}},
		{{call(6, 0, 3, 0)}, {call(3, 0, 1, 0)}, {call(7, 0, 0, 0), call(1, 0, 0, 0)}},
		{{call(5, 0, 0, 1), call(1, 1, 0, 0)}, {call(6, 1, 4, 0), call(5, 0, 0, 2)}},
		{{call(6, 0, 2, 0), call(1, 9, 0, 0), call(8, 0, 0, 0)}, {call(3, 0, 1, 0), call(3, 0, 1, 0)}},
	} {
		turnsOf(len(work), 7, func(turns []int) {
			c := api.Case{Work: work, Turns: turns}
			wantOrderOf(t, []int{0, 0}, c, &m, all)
			for steps := 1; steps <= 6; steps++ {
				c.Until, c.Halt = steps, nil
				wantOrderOf(t, []int{0, 0}, c, &m, all)
				c.Until, c.Halt = 0, []int{steps, 7 - steps}
				wantOrderOf(t, []int{0, 0}, c, &m, all)
			}
		})
	}
}

// playOfCells makes a case of at most 64 calls.
func (m *mixer) playOfCells() ([]int, api.Case) {
	first := make([]int, 1+m.below(3))
	for i := range first {
		first[i] = m.below(5) - 2
	}
	workers := 1 + m.below(8)
	c := api.Case{Work: make([][]api.Call, workers)}
	for range m.below(65) {
		k := m.below(workers)
		x := call(1+m.below(7), m.below(len(first)), m.below(7)-3, m.below(7)-3)
		if m.below(10) == 0 {
			x = call(m.below(10), m.below(5)-1, m.below(3), 1)
		}
		c.Work[k] = append(c.Work[k], x)
	}
	for range m.below(200) {
		c.Turns = append(c.Turns, m.below(8))
	}
	if m.maybe() {
		for range workers {
			c.Halt = append(c.Halt, m.below(12))
		}
	}
	if m.below(3) == 0 {
		c.Until = m.below(40)
	}
	return first, c
}

// P20.6: mixed cases, up to the greatest that are judged.
func TestMixedRunsOfCells(t *testing.T) {
	takesLong(t)
	const count = 3000
	all := listsBelow()
	var m mixer = 206
	open, stood, none, greatest := 0, 0, 0, 0
	for range count {
		first, c := m.playOfCells()
		l, order := wantOrderOf(t, first, c, &m, all)
		greatest = max(greatest, len(l))
		for i, d := range l {
			if d.End == 0 {
				open++
				if slices.Contains(order, i) {
					stood++
				}
			}
		}
		if len(l) == 0 {
			continue
		}
		m.spoil(l)
		order, ok, err := judge.Order(first, l)
		if err != 0 || ok && !isOrder(first, l, order) {
			t.Fatalf("P20.2: Order(%v, %+v): %v, %v, %d", first, l, order, ok, err)
		}
		if !ok {
			none++
		}
	}
	if open < count/10 || stood < count/20 || none < count/10 || greatest < 60 {
		t.Errorf("too few runs with open calls, or spoilt ones without an order: %d, %d, %d, %d", open, stood, none, greatest)
	}
}

// falling: calls of cells; some of them fall behind their access, or ahead of it.
type falling struct{ c *cell.Cells }

// fallsBehind, fallsAhead: calls of kinds from there on fall.
const (
	fallsBehind = 100
	fallsAhead  = 200
)

func (f falling) Do(w *crew.Worker, x api.Call) api.Answer {
	if x.Kind > fallsAhead {
		w.Step()
		panic("ahead")
	}
	var a api.Answer
	switch x.Kind % 100 {
	case 1:
		a.N, a.Err = f.c.Load(w, x.A)
	case 3:
		a.N, a.Err = f.c.Add(w, x.A, x.B)
	case 6:
		a.N, a.Err = f.c.Most(w, x.A, x.B)
	}
	if x.Kind > fallsBehind {
		panic("behind")
	}
	return a
}

// P20.6: calls that fell are open ones: they may have done what they do, or not.
func TestCallsThatFell(t *testing.T) {
	all := listsBelow()
	fell, stood := 0, 0
	for _, work := range [][][]api.Call{
		{{call(103, 0, 5, 0), call(1, 0, 0, 0)}, {call(3, 0, 1, 0), call(1, 0, 0, 0)}},
		{{call(203, 0, 5, 0)}, {call(3, 0, 1, 0), call(1, 0, 0, 0)}},
		{{call(106, 0, 5, 0)}, {call(206, 0, 9, 0)}, {call(1, 0, 0, 0), call(3, 0, 1, 0)}},
	} {
		turnsOf(len(work), 5, func(turns []int) {
			c := api.Case{Work: work, Turns: turns}
			run, err := crew.Run(c, falling{cells([]int{0})})
			l := deedsOf(c, run)
			for i := range l {
				l[i].Kind %= 100
			}
			order, ok, wrong := judge.Order([]int{0}, l)
			if err != 0 || wrong != 0 || !ok || !isOrder([]int{0}, l, order) {
				t.Fatalf("P20.6: a run of %+v: Order of %+v: %v, %v, %d", c, l, order, ok, wrong)
			}
			wantPlain(t, []int{0}, l, all)
			for i, d := range l {
				if d.End == 0 {
					fell++
					if slices.Contains(order, i) {
						stood++
					}
				}
			}
		})
	}
	if fell == 0 || stood == 0 || stood == fell {
		t.Errorf("of %d that fell %d stand in an order", fell, stood)
	}
}
