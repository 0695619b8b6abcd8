package joint_test

import (
	"math/big"
	"reflect"

	"skein/api"
	"skein/crew"
)

// does: a function as what a call does.
type does func(w *crew.Worker, c api.Call) api.Answer

func (f does) Do(w *crew.Worker, c api.Call) api.Answer { return f(w, c) }

// line does the next line of a call: its answer, and whether the call has ended with it.
type line func() (api.Answer, bool)

// runModel: a run as DOC.md's words say it, without goroutines; begin tells the lines of a call.
type runModel struct {
	c     api.Case
	begin func(worker int, c api.Call) line
	turns []int
	last  int // who stepped last; -1: nobody
	did   []int
	lines []line
	open  []api.Open // of each worker; Own 0: none
	told  api.Run
}

func modelRun(c api.Case, begin func(worker int, c api.Call) line) api.Run {
	n := len(c.Work)
	m := &runModel{
		c: c, begin: begin, turns: c.Turns, last: -1, did: make([]int, n), lines: make([]line, n), open: make([]api.Open, n),
		told: api.Run{Answers: make([][]api.Answer, n)},
	}
	return m.run()
}

func (m *runModel) ready() []int {
	var list []int
	for k, calls := range m.c.Work {
		halted := k < len(m.c.Halt) && m.c.Halt[k] > 0 && m.did[k] >= m.c.Halt[k]
		if len(m.told.Answers[k]) < len(calls) && !halted {
			list = append(list, k)
		}
	}
	return list
}

func (m *runModel) pick(ready []int) int {
	if len(m.turns) > 0 {
		t := big.NewInt(int64(m.turns[0]))
		m.turns = m.turns[1:]
		return ready[t.Mod(t, big.NewInt(int64(len(ready)))).Int64()]
	}
	for _, k := range ready {
		if k > m.last {
			return k
		}
	}
	return ready[0]
}

func (m *runModel) step(k int) {
	m.last = k
	m.told.Steps++
	m.did[k]++
	if m.open[k].Own == 0 {
		m.open[k] = api.Open{Worker: k, Begin: m.told.Steps}
		m.lines[k] = m.begin(k, m.c.Work[k][len(m.told.Answers[k])])
	}
	m.open[k].Own++
	a, ended := m.lines[k]()
	if !ended {
		return
	}
	a.Begin, a.End, a.Own = m.open[k].Begin, m.told.Steps, m.open[k].Own
	m.told.Answers[k] = append(m.told.Answers[k], a)
	m.open[k] = api.Open{}
}

func (m *runModel) run() api.Run {
	until := m.c.Until
	if until == 0 {
		until = 20000
	}
	for m.told.Steps < until && len(m.ready()) > 0 {
		m.step(m.pick(m.ready()))
	}
	m.told.Cut = len(m.ready()) > 0
	for _, o := range m.open {
		if o.Own > 0 {
			m.told.Open = append(m.told.Open, o)
		}
	}
	return m.told
}

// sameRun holds two runs against each other; a nil list and an empty one are the same.
func sameRun(a, b api.Run) bool {
	return reflect.DeepEqual(plainRun(a), plainRun(b))
}

// plainRun copies a run, all empty lists of it as nil.
func plainRun(r api.Run) api.Run {
	plain := api.Run{Steps: r.Steps, Cut: r.Cut, Open: append([]api.Open(nil), r.Open...)}
	for _, answers := range r.Answers {
		var list []api.Answer
		for _, a := range answers {
			a.Ints = append([]int(nil), a.Ints...)
			a.Pairs = append([]api.Pair(nil), a.Pairs...)
			list = append(list, a)
		}
		plain.Answers = append(plain.Answers, list)
	}
	return plain
}

// plainCase copies a case and what hangs on it.
func plainCase(c api.Case) api.Case {
	plain := api.Case{Until: c.Until, Turns: append([]int(nil), c.Turns...), Halt: append([]int(nil), c.Halt...)}
	for _, calls := range c.Work {
		var list []api.Call
		for _, call := range calls {
			call.Pairs = append([]api.Pair(nil), call.Pairs...)
			list = append(list, call)
		}
		plain.Work = append(plain.Work, list)
	}
	return plain
}

// mixer: numbers that look mixed and are the same each time.
type mixer uint64

func (m *mixer) below(n int) int {
	*m += 0x9E3779B97F4A7C15
	z := uint64(*m)
	z = (z ^ z>>30) * 0xBF58476D1CE4E5B9
	z = (z ^ z>>27) * 0x94D049BB133111EB
	return int((z ^ z>>31) % uint64(n))
}

func (m *mixer) one(list []int) int { return list[m.below(len(list))] }

// orders calls f with every list of so many turns of so many workers.
func orders(workers, turns int, f func(turns []int)) {
	list := make([]int, turns)
	for {
		f(list)
		i := 0
		for i < turns && list[i] == workers-1 {
			list[i] = 0
			i++
		}
		if i == turns {
			return
		}
		list[i]++
	}
}
