package board_test

import (
	"maps"
	"math"
	"slices"
	"testing"

	"skein/api"
	"skein/board"
	"skein/crew"
)

// The calls of Play, by their names.
func get(name int) api.Call              { return api.Call{Kind: 1, A: name} }
func put(name, value int) api.Call       { return api.Call{Kind: 2, A: name, B: value} }
func swap(name, old, value int) api.Call { return api.Call{Kind: 3, A: name, B: old, C: value} }
func drop(name int) api.Call             { return api.Call{Kind: 4, A: name} }
func all() api.Call                      { return api.Call{Kind: 5} }
func count() api.Call                    { return api.Call{Kind: 6} }
func add(name, value int) api.Call       { return api.Call{Kind: 7, A: name, B: value} }

// model: a board as the chapter's lines say it.
type model struct {
	values map[int]int
	number int // of the table that is published: each one has another
}

func newModel(start []api.Pair) *model {
	m := &model{values: map[int]int{}, number: 1}
	for _, p := range start {
		m.values[p.Key] = p.Value
	}
	return m
}

func (m *model) table() []api.Pair {
	var list []api.Pair
	for _, name := range slices.Sorted(maps.Keys(m.values)) {
		list = append(list, api.Pair{Key: name, Value: m.values[name]})
	}
	return list
}

// once: a call of one line.
func once(f func() api.Answer) line {
	return func() (api.Answer, bool) { return f(), true }
}

func refused(err api.Errno) line {
	return once(func() api.Answer { return api.Answer{Err: err} })
}

// rounds: a call of two lines. The first one tells the answer, and what the second one changes; nothing: the call has ended.
func (m *model) rounds(first func() (api.Answer, func())) line {
	loaded, a, change := 0, api.Answer{}, func() {}
	return func() (api.Answer, bool) {
		if loaded == 0 {
			loaded = m.number
			a, change = first()
			return a, change == nil
		}
		same := loaded == m.number
		loaded = 0
		if same {
			change()
			m.number++
		}
		return a, same
	}
}

func (m *model) begin(_ int, c api.Call) line {
	if c.Kind < 1 || c.Kind > 7 {
		return refused(90)
	}
	if c.Kind != 5 && c.Kind != 6 && (c.A < 0 || c.A > 4294967295) {
		return refused(91)
	}
	switch c.Kind {
	case 1:
		return once(func() api.Answer { return m.get(c.A) })
	case 5:
		return once(func() api.Answer { return api.Answer{Pairs: m.table()} })
	case 6:
		return once(func() api.Answer { return api.Answer{N: len(m.values)} })
	}
	return m.rounds(func() (api.Answer, func()) { return m.first(c) })
}

func (m *model) get(name int) api.Answer {
	value, there := m.values[name]
	if !there {
		return api.Answer{Err: 92}
	}
	return api.Answer{N: value}
}

// first: the first line of a call that may change something.
func (m *model) first(c api.Call) (api.Answer, func()) {
	has, there := m.values[c.A]
	switch {
	case c.Kind == 2 && there && has == c.B, c.Kind == 7 && there, c.Kind == 3 && there && has != c.B:
		return api.Answer{}, nil
	case !there && (c.Kind == 3 || c.Kind == 4):
		return api.Answer{Err: 92}, nil
	case !there && len(m.values) == 64:
		return api.Answer{Err: 93}, nil
	case c.Kind == 4:
		return api.Answer{N: has}, func() { delete(m.values, c.A) }
	case c.Kind == 3 && c.B == c.C:
		return api.Answer{Ok: true}, nil
	case c.Kind == 3:
		return api.Answer{Ok: true}, func() { m.values[c.A] = c.C }
	}
	return api.Answer{Ok: true}, func() { m.values[c.A] = c.B }
}

func (m *model) play(c api.Case) (api.Run, []api.Pair) {
	run := modelRun(c, m.begin)
	return run, m.table()
}

// alone does a call with all its lines at once.
func (m *model) alone(c api.Call) api.Answer {
	l := m.begin(0, c)
	for {
		if a, ended := l(); ended {
			return a
		}
	}
}

func newBoard(t *testing.T, start ...api.Pair) *board.Board {
	t.Helper()
	b, err := board.New(start)
	if err != api.OK || b == nil {
		t.Fatalf("P9.1: New(%v): %v, %v", start, b, err)
	}
	return b
}

// byName does calls by their names.
func byName(b *board.Board) does {
	return func(w *crew.Worker, c api.Call) api.Answer {
		var a api.Answer
		switch c.Kind {
		case 1:
			a.N, a.Err = b.Get(w, c.A)
		case 2:
			a.Ok, a.Err = b.Put(w, c.A, c.B)
		case 3:
			a.Ok, a.Err = b.Swap(w, c.A, c.B, c.C)
		case 4:
			a.N, a.Err = b.Drop(w, c.A)
		case 5:
			a.Pairs = b.All(w)
		case 6:
			a.N = b.Count(w)
		case 7:
			a.Ok, a.Err = b.Add(w, c.A, c.B)
		default:
			a.Err = api.ErrBoardCall
		}
		return a
	}
}

// wantBoard holds what a board tells of itself, alone, against its table.
func wantBoard(t *testing.T, promise string, b *board.Board, table ...api.Pair) {
	t.Helper()
	if got := b.All(nil); !slices.Equal(got, table) {
		t.Fatalf("%s: All %v, want %v", promise, got, table)
	}
	if got := b.Count(nil); got != len(table) {
		t.Fatalf("%s: Count %d, want %d", promise, got, len(table))
	}
	for _, p := range table {
		if got, err := b.Get(nil, p.Key); got != p.Value || err != api.OK {
			t.Fatalf("%s: Get(%d): %d, %v, want %d", promise, p.Key, got, err, p.Value)
		}
	}
}

func sameAnswer(a, b api.Answer) bool {
	return a.Ok == b.Ok && a.N == b.N && a.M == b.M && a.Err == b.Err && slices.Equal(a.Pairs, b.Pairs) && len(a.Ints) == 0 && len(b.Ints) == 0
}

func wantPlay(t *testing.T, promise string, start []api.Pair, c api.Case, want api.Run, table []api.Pair) {
	t.Helper()
	run, got, err := board.Play(start, c)
	if err != api.OK || !sameRun(run, want) || !slices.Equal(got, table) {
		t.Fatalf("%s: Play(%v, %+v)\ngot  %+v %v %v\nwant %+v %v", promise, start, c, run, got, err, want, table)
	}
}

// wantModel holds a Play against the model.
func wantModel(t *testing.T, promise string, start []api.Pair, c api.Case) (api.Run, []api.Pair) {
	t.Helper()
	run, table := newModel(start).play(c)
	wantPlay(t, promise, start, c, run, table)
	return run, table
}

func work(calls ...[]api.Call) api.Case { return api.Case{Work: calls} }

// is: a pair.
func is(name, value int) api.Pair { return api.Pair{Key: name, Value: value} }

// full: the pairs of so many names, 0, 2, 4 ..; each has its name for a value.
func full(n int) []api.Pair {
	list := make([]api.Pair, n)
	for i := range list {
		list[i] = is(2*i, 2*i)
	}
	return list
}

const (
	lowest  = math.MinInt
	highest = math.MaxInt
	maxKey  = 1<<32 - 1
)

var (
	someNames  = []int{0, 1, 2, 63, 64, 65, 1 << 31, maxKey - 1, maxKey}
	noNames    = []int{lowest, lowest + 1, -1 << 40, -1<<32 - 1, -1 << 32, -maxKey, -2, -1, maxKey + 1, maxKey + 2, 1 << 33, 1<<40 + 1, 1 << 62, highest - 1, highest}
	farNumbers = []int{lowest, lowest + 1, -1 << 32, -65, -2, -1, 0, 1, 2, 63, 64, 65, 1 << 32, highest - 1, highest}
	fewHalts   = []int{lowest, -1, 0, 0, 0, 1, 2, 3, 4, 5, 8, highest}
	fewUntils  = []int{0, 0, 0, 0, 1, 2, 3, 7, 15, 19999, 20000}
)

// mixed: a Play's arguments.
type mixed struct {
	start []api.Pair
	c     api.Case
}

// value: mostly one of few, so that calls meet values that are there.
func (m *mixer) value() int {
	if m.below(5) == 0 {
		return m.one(farNumbers)
	}
	return m.below(3)
}

// call: of one of the names; also one that can't be, or of no name, if wild.
func (m *mixer) call(names []int, wild bool) api.Call {
	c := api.Call{Kind: m.one([]int{1, 2, 2, 2, 3, 3, 3, 4, 4, 5, 6, 7, 7, 7}), A: m.one(names), B: m.value(), C: m.value()}
	if !wild {
		return c
	}
	switch m.below(12) {
	case 0:
		c.Kind = m.one([]int{lowest, -1, 0, 8, 9, highest})
	case 1:
		c.A = m.one(noNames)
	}
	return c
}

// start: few pairs, or some pairs less than a full board of them (then of many names more than the calls go by).
func (m *mixer) start(names []int) []api.Pair {
	var list []api.Pair
	if m.below(3) == 0 {
		for i := range 60 + m.below(5) {
			list = append(list, is(100+i, m.value()))
		}
		return list
	}
	for range m.below(6) {
		list = append(list, is(m.one(names), m.value()))
	}
	return list
}

func (m *mixer) mixed(wild bool) mixed {
	names := [][]int{{5}, {0, maxKey}, {3, 4, 5}, {0, 1, 2, 103, 110, 1000, maxKey - 1, maxKey}}[m.below(4)]
	x := mixed{start: m.start(names)}
	for range 1 + m.below(5) {
		var calls []api.Call
		for range m.below(9) {
			calls = append(calls, m.call(names, wild))
		}
		x.c.Work = append(x.c.Work, calls)
	}
	for range m.below(60) {
		x.c.Turns = append(x.c.Turns, m.one(farNumbers)+m.below(8))
	}
	if m.below(2) == 0 {
		for range m.below(7) {
			x.c.Halt = append(x.c.Halt, m.one(fewHalts))
		}
		x.c.Until = m.one(fewUntils)
	}
	return x
}

// mixedPlays calls f with so many Plays' arguments.
func mixedPlays(count int, wild bool, f func(x mixed)) {
	m := mixer(count)
	for range count {
		f(m.mixed(wild))
	}
}
