package cell_test

import (
	"math"
	"slices"
	"testing"

	"skein/api"
	"skein/cell"
	"skein/crew"
)

// The calls of Play, by their names.
func load(i int) api.Call        { return api.Call{Kind: 1, A: i} }
func store(i, v int) api.Call    { return api.Call{Kind: 2, A: i, B: v} }
func add(i, v int) api.Call      { return api.Call{Kind: 3, A: i, B: v} }
func swap(i, v int) api.Call     { return api.Call{Kind: 4, A: i, B: v} }
func cas(i, old, v int) api.Call { return api.Call{Kind: 5, A: i, B: old, C: v} }
func most(i, v int) api.Call     { return api.Call{Kind: 6, A: i, B: v} }
func least(i, v int) api.Call    { return api.Call{Kind: 7, A: i, B: v} }

// model: cells as the chapter's lines say them.
type model struct{ cells []int }

func newModel(n int, first []int) *model {
	m := &model{cells: make([]int, n)}
	copy(m.cells, first)
	return m
}

// one: a line with which its call ends.
func one(a api.Answer) line { return func() (api.Answer, bool) { return a, true } }

func (m *model) begin(_ int, c api.Call) line {
	if c.Kind < 1 || c.Kind > 7 {
		return one(api.Answer{Err: 40})
	}
	if c.A < 0 || c.A >= len(m.cells) {
		return one(api.Answer{Err: 41})
	}
	x := &m.cells[c.A]
	switch c.Kind {
	case 6:
		return m.bound(x, c.B, func(x int) bool { return x >= c.B })
	case 7:
		return m.bound(x, c.B, func(x int) bool { return x <= c.B })
	}
	return func() (api.Answer, bool) { return access(x, c), true }
}

// access does a call of one line.
func access(x *int, c api.Call) api.Answer {
	was := *x
	switch c.Kind {
	case 2:
		*x = c.B
		return api.Answer{}
	case 3:
		*x += c.B
		return api.Answer{N: *x}
	case 4:
		*x = c.B
	case 5:
		if was == c.B {
			*x = c.C
		}
		return api.Answer{Ok: was == c.B}
	}
	return api.Answer{N: was}
}

// bound: the lines of Most and of Least.
func (m *model) bound(x *int, v int, holds func(x int) bool) line {
	loaded, was := false, 0
	return func() (api.Answer, bool) {
		if !loaded {
			was = *x
			loaded = !holds(was)
			return api.Answer{N: was}, !loaded
		}
		loaded = false
		if *x != was {
			return api.Answer{}, false
		}
		*x = v
		return api.Answer{N: v}, true
	}
}

func (m *model) play(c api.Case) (api.Run, []int) {
	run := modelRun(c, m.begin)
	return run, m.cells
}

// alone does a call with all its lines at once.
func (m *model) alone(c api.Call) api.Answer {
	l := m.begin(0, c)
	for {
		if a, ended := l(); ended {
			return a
		}
	}
}

// byName does a call by the method of its name.
func byName(c *cell.Cells, w *crew.Worker, call api.Call) api.Answer {
	var a api.Answer
	switch call.Kind {
	case 1:
		a.N, a.Err = c.Load(w, call.A)
	case 2:
		a.Err = c.Store(w, call.A, call.B)
	case 3:
		a.N, a.Err = c.Add(w, call.A, call.B)
	case 4:
		a.N, a.Err = c.Swap(w, call.A, call.B)
	case 5:
		a.Ok, a.Err = c.Cas(w, call.A, call.B, call.C)
	case 6:
		a.N, a.Err = c.Most(w, call.A, call.B)
	case 7:
		a.N, a.Err = c.Least(w, call.A, call.B)
	}
	return a
}

func sameAnswer(a, b api.Answer) bool {
	return a.Ok == b.Ok && a.N == b.N && a.M == b.M && a.Err == b.Err && len(a.Ints) == 0 && len(a.Pairs) == 0 && len(b.Ints) == 0 && len(b.Pairs) == 0
}

func wantPlay(t *testing.T, promise string, n int, first []int, c api.Case, want api.Run, values []int) {
	t.Helper()
	run, got, err := cell.Play(n, first, c)
	if err != api.OK || !sameRun(run, want) || !slices.Equal(got, values) {
		t.Fatalf("%s: Play(%d, %v, %+v)\ngot  %+v %v %v\nwant %+v %v", promise, n, first, c, run, got, err, want, values)
	}
}

// wantModel holds a Play against the model.
func wantModel(t *testing.T, promise string, n int, first []int, c api.Case) (api.Run, []int) {
	t.Helper()
	run, values := newModel(n, first).play(c)
	wantPlay(t, promise, n, first, c, run, values)
	return run, values
}

func newCells(t *testing.T, n int) *cell.Cells {
	t.Helper()
	c, err := cell.New(n)
	if err != api.OK || c == nil {
		t.Fatalf("P4.1: New(%d): %v, %v", n, c, err)
	}
	return c
}

func work(calls ...[]api.Call) api.Case { return api.Case{Work: calls} }

var (
	farNumbers = []int{math.MinInt, math.MinInt + 1, -1 << 32, -257, -2, -1, 0, 1, 2, 255, 256, 257, 1 << 32, math.MaxInt - 1, math.MaxInt}
	fewNumbers = []int{-3, -2, -1, 0, 1, 2, 3}
	fewHalts   = []int{math.MinInt, -1, 0, 0, 0, 1, 2, 3, 4, 5, 8, math.MaxInt}
	fewUntils  = []int{0, 0, 0, 0, 1, 2, 3, 7, 15, 19999, 20000}
)

// mixed: a Play's arguments.
type mixed struct {
	n     int
	first []int
	c     api.Case
}

func (m *mixer) number() int {
	if m.below(6) == 0 {
		return m.one(farNumbers)
	}
	return m.one(fewNumbers)
}

// call: of so many cells; now and then one that can't be.
func (m *mixer) call(n int) api.Call {
	c := api.Call{Kind: 1 + m.below(7), A: m.below(n), B: m.number(), C: m.number()}
	switch m.below(14) {
	case 0:
		c.Kind = m.one([]int{math.MinInt, -1, 0, 8, 9, math.MaxInt})
	case 1:
		c.A = m.one([]int{math.MinInt, -1, n, n + 1, math.MaxInt})
	case 2, 3, 4:
		c.Kind = 6 + m.below(2)
	}
	return c
}

func (m *mixer) mixed() mixed {
	x := mixed{n: 1 + m.below(3)}
	for range m.below(x.n + 1) {
		x.first = append(x.first, m.number())
	}
	for range 1 + m.below(5) {
		var calls []api.Call
		for range m.below(7) {
			calls = append(calls, m.call(x.n))
		}
		x.c.Work = append(x.c.Work, calls)
	}
	for range m.below(30) {
		x.c.Turns = append(x.c.Turns, m.one(farNumbers)+m.below(8))
	}
	if m.below(2) == 0 {
		for range m.below(7) {
			x.c.Halt = append(x.c.Halt, m.one(fewHalts))
		}
		x.c.Until = m.one(fewUntils)
	}
	return x
}

// mixedPlays calls f with so many Plays' arguments.
func mixedPlays(count int, f func(x mixed)) {
	m := mixer(count)
	for range count {
		f(m.mixed())
	}
}
