package crew_test

import (
	"math"
	"math/big"
	"reflect"
	"testing"

	"skein/api"
	"skein/crew"
)

// does: a function as what a call does.
type does func(w *crew.Worker, c api.Call) api.Answer

func (f does) Do(w *crew.Worker, c api.Call) api.Answer { return f(w, c) }

// drillLines tells how many lines a call of a drill has, and whether it falls behind them.
func drillLines(c api.Call) (int, bool) {
	within := c.A >= 1 && c.A <= 64
	if within && (c.Kind == 1 || c.Kind == 3) {
		return c.A, c.Kind == 3
	}
	return 1, false
}

// drillAnswer tells what a call of a drill answers at its last line, and what the shared number is then.
func drillAnswer(c api.Call, number int) (api.Answer, int) {
	_, falls := drillLines(c)
	switch {
	case falls:
		return api.Answer{Err: api.ErrCrewFell}, number
	case c.Kind == 1 && c.A >= 1 && c.A <= 64:
		return api.Answer{Ok: true, N: c.A}, number
	case c.Kind == 2:
		return api.Answer{Ok: true, N: number}, number + c.A
	}
	return api.Answer{Err: api.ErrCrewCall}, number
}

// model: a drill as DOC.md's words say it, without goroutines.
type model struct {
	c      api.Case
	turns  []int
	last   int // who stepped last; -1: nobody
	number int
	did    []int // steps of each worker
	fell   []bool
	open   []api.Open // of each worker; Own 0: none
	told   api.Run
	log    []int // whose each step was
}

func newModel(c api.Case) *model {
	n := len(c.Work)
	return &model{
		c: c, turns: c.Turns, last: -1, did: make([]int, n), fell: make([]bool, n), open: make([]api.Open, n),
		told: api.Run{Answers: make([][]api.Answer, n)},
	}
}

func (m *model) ready() []int {
	var list []int
	for k, calls := range m.c.Work {
		halted := k < len(m.c.Halt) && m.c.Halt[k] > 0 && m.did[k] >= m.c.Halt[k]
		if len(m.told.Answers[k]) < len(calls) && !halted && !m.fell[k] {
			list = append(list, k)
		}
	}
	return list
}

func (m *model) pick(ready []int) int {
	if len(m.turns) > 0 {
		t := big.NewInt(int64(m.turns[0]))
		m.turns = m.turns[1:]
		return ready[t.Mod(t, big.NewInt(int64(len(ready)))).Int64()]
	}
	for _, k := range ready {
		if k > m.last {
			return k
		}
	}
	return ready[0]
}

func (m *model) step(k int) {
	m.last = k
	m.told.Steps++
	m.did[k]++
	m.log = append(m.log, k)
	if m.open[k].Own == 0 {
		m.open[k] = api.Open{Worker: k, Begin: m.told.Steps}
	}
	m.open[k].Own++
	call := m.c.Work[k][len(m.told.Answers[k])]
	lines, falls := drillLines(call)
	if m.open[k].Own < lines {
		return
	}
	var a api.Answer
	a, m.number = drillAnswer(call, m.number)
	a.Begin, a.End, a.Own = m.open[k].Begin, m.told.Steps, lines
	m.told.Answers[k] = append(m.told.Answers[k], a)
	m.open[k] = api.Open{}
	m.fell[k] = falls
}

func (m *model) run() api.Run {
	until := m.c.Until
	if until == 0 {
		until = 20000
	}
	for m.told.Steps < until && len(m.ready()) > 0 {
		m.step(m.pick(m.ready()))
	}
	m.told.Cut = len(m.ready()) > 0
	for _, o := range m.open {
		if o.Own > 0 {
			m.told.Open = append(m.told.Open, o)
		}
	}
	return m.told
}

// sum: what P3.8 says that Rush answers.
func sum(c api.Case) int {
	total := 0
	for _, calls := range c.Work {
		for _, call := range calls {
			if _, falls := drillLines(call); falls {
				break
			}
			if call.Kind == 2 {
				total += call.A
			}
		}
	}
	return total
}

// same holds two runs against each other; a nil list and an empty one are the same.
func same(a, b api.Run) bool {
	if a.Steps != b.Steps || a.Cut != b.Cut || len(a.Answers) != len(b.Answers) || len(a.Open) != len(b.Open) {
		return false
	}
	for i := range a.Open {
		if a.Open[i] != b.Open[i] {
			return false
		}
	}
	for k := range a.Answers {
		if !sameList(a.Answers[k], b.Answers[k]) {
			return false
		}
	}
	return true
}

func sameList(a, b []api.Answer) bool {
	if len(a) != len(b) {
		return false
	}
	for i := range a {
		if !reflect.DeepEqual(plainAnswer(a[i]), plainAnswer(b[i])) {
			return false
		}
	}
	return true
}

func plainAnswer(a api.Answer) api.Answer {
	if len(a.Ints) == 0 {
		a.Ints = nil
	}
	if len(a.Pairs) == 0 {
		a.Pairs = nil
	}
	return a
}

func wantRun(t *testing.T, promise string, c api.Case, d crew.Does, want api.Run) {
	t.Helper()
	got, err := crew.Run(c, d)
	if err != api.OK || !same(got, want) {
		t.Fatalf("%s: of %+v\ngot  %+v %v\nwant %+v", promise, c, got, err, want)
	}
}

func wantDrill(t *testing.T, promise string, c api.Case, want api.Run) {
	t.Helper()
	got, err := crew.Drill(c)
	if err != api.OK || !same(got, want) {
		t.Fatalf("%s: drill of %+v\ngot  %+v %v\nwant %+v", promise, c, got, err, want)
	}
}

// mixer: numbers that look mixed and are the same each time.
type mixer uint64

func (m *mixer) below(n int) int {
	*m += 0x9E3779B97F4A7C15
	z := uint64(*m)
	z = (z ^ z>>30) * 0xBF58476D1CE4E5B9
	z = (z ^ z>>27) * 0x94D049BB133111EB
	return int((z ^ z>>31) % uint64(n))
}

func (m *mixer) one(list []int) int { return list[m.below(len(list))] }

var (
	farNumbers = []int{math.MinInt, math.MinInt + 1, -1 << 32, -1000, -64, -2, -1, 0, 1, 2, 63, 64, 65, 1000, 1 << 32, math.MaxInt - 1, math.MaxInt}
	fewHalts   = []int{math.MinInt, -1, 0, 0, 0, 1, 2, 3, 5, 10, math.MaxInt}
	fewUntils  = []int{0, 0, 0, 0, 1, 2, 7, 20, 100, 19999, 20000}
)

func (m *mixer) call() api.Call {
	switch m.below(12) {
	case 0:
		return api.Call{Kind: m.one(farNumbers), A: m.one(farNumbers), B: 1, C: 2}
	case 1:
		return api.Call{Kind: 1 + m.below(3), A: m.one(farNumbers)}
	case 2:
		return api.Call{Kind: 3, A: 1 + m.below(4)}
	case 3, 4, 5, 6:
		return api.Call{Kind: 1, A: 1 + m.below(5)}
	}
	return api.Call{Kind: 2, A: m.below(1000) - 300}
}

// mixedCase: a case of a drill, of all that the chapter names something.
func (m *mixer) mixedCase() api.Case {
	c := api.Case{Until: m.one(fewUntils)}
	for range 1 + m.below(8) {
		var calls []api.Call
		for range m.below(7) {
			calls = append(calls, m.call())
		}
		c.Work = append(c.Work, calls)
	}
	for range m.below(30) {
		c.Turns = append(c.Turns, m.one(farNumbers)+m.below(8))
	}
	for range m.below(11) {
		c.Halt = append(c.Halt, m.one(fewHalts))
	}
	return c
}

// mixedCases calls f with so many cases.
func mixedCases(count int, f func(c api.Case)) {
	m := mixer(count)
	for range count {
		f(m.mixedCase())
	}
}
