package tally_test

import (
	"math"
	"reflect"
	"testing"

	"skein/api"
	"skein/crew"
	"skein/tally"
)

// The calls of Play, by their names.
func addTo(shard, n int) api.Call { return api.Call{Kind: 1, A: shard, B: n} }
func sumUp() api.Call             { return api.Call{Kind: 2} }
func takeNext() api.Call          { return api.Call{Kind: 3} }
func tellNow() api.Call           { return api.Call{Kind: 4} }
func setMark(i int) api.Call      { return api.Call{Kind: 5, A: i} }
func clearMark(i int) api.Call    { return api.Call{Kind: 6, A: i} }
func testMark(i int) api.Call     { return api.Call{Kind: 7, A: i} }
func countMarks() api.Call        { return api.Call{Kind: 8} }

// size: of how much a Play is.
type size struct{ shards, first, marks int }

// model: shards, a ticket and marks as the chapter's lines say them.
type model struct {
	shards []int
	ticket int
	n      int
	words  [][32]bool
}

func newModel(s size) *model {
	return &model{shards: make([]int, s.shards), ticket: s.first, n: s.marks, words: make([][32]bool, (s.marks+31)/32)}
}

// one: a line with which its call ends.
func one(a api.Answer) line { return func() (api.Answer, bool) { return a, true } }

func (m *model) begin(_ int, c api.Call) line {
	switch c.Kind {
	case 1:
		if c.A < 0 || c.A >= len(m.shards) {
			return one(api.Answer{Err: 51})
		}
		return func() (api.Answer, bool) {
			m.shards[c.A] += c.B
			return api.Answer{}, true
		}
	case 2:
		return gather(len(m.shards), func(i int) int { return m.shards[i] })
	case 3:
		return func() (api.Answer, bool) {
			m.ticket++
			return api.Answer{N: m.ticket - 1}, true
		}
	case 4:
		return func() (api.Answer, bool) { return api.Answer{N: m.ticket}, true }
	case 5, 6, 7:
		return m.mark(c)
	case 8:
		return gather(len(m.words), func(i int) int { return setIn(m.words[i]) })
	}
	return one(api.Answer{Err: 50})
}

// gather: a line for each of n numbers, and their sum.
func gather(n int, number func(i int) int) line {
	i, sum := 0, 0
	return func() (api.Answer, bool) {
		sum += number(i)
		i++
		if i < n {
			return api.Answer{}, false
		}
		return api.Answer{N: sum}, true
	}
}

func setIn(word [32]bool) int {
	n := 0
	for _, set := range word {
		if set {
			n++
		}
	}
	return n
}

// mark: the lines of Set, Clear and Test.
func (m *model) mark(c api.Call) line {
	if c.A < 0 || c.A >= m.n {
		return one(api.Answer{Err: 51})
	}
	word, bit := &m.words[c.A/32], c.A%32
	if c.Kind == 7 {
		return func() (api.Answer, bool) { return api.Answer{Ok: word[bit]}, true }
	}
	loaded, was := false, [32]bool{}
	return func() (api.Answer, bool) {
		if !loaded {
			was = *word
			loaded = was[bit] != (c.Kind == 5)
			return api.Answer{}, !loaded
		}
		loaded = false
		if *word != was {
			return api.Answer{}, false
		}
		word[bit] = c.Kind == 5
		return api.Answer{Ok: true}, true
	}
}

// tally: how the model is.
func (m *model) tally() api.Tally {
	x := api.Tally{Shards: append([]int(nil), m.shards...), Ticket: m.ticket}
	for i := range m.n {
		if m.words[i/32][i%32] {
			x.Marks = append(x.Marks, i)
		}
	}
	return x
}

func (m *model) play(c api.Case) (api.Run, api.Tally) {
	run := modelRun(c, m.begin)
	return run, m.tally()
}

// alone does a call with all its lines at once.
func (m *model) alone(c api.Call) api.Answer {
	l := m.begin(0, c)
	for {
		if a, ended := l(); ended {
			return a
		}
	}
}

// things: a counter, a ticket and marks, whose calls are called by their names.
type things struct {
	size    size
	counter *tally.Counter
	ticket  *tally.Ticket
	marks   *tally.Marks
}

func newThings(t *testing.T, s size) things {
	t.Helper()
	c, err := tally.NewCounter(s.shards)
	if err != api.OK || c == nil {
		t.Fatalf("P5.1: NewCounter(%d): %v, %v", s.shards, c, err)
	}
	m, err := tally.NewMarks(s.marks)
	if err != api.OK || m == nil {
		t.Fatalf("P5.3: NewMarks(%d): %v, %v", s.marks, m, err)
	}
	k := tally.NewTicket(s.first)
	if k == nil {
		t.Fatalf("P5.2: NewTicket(%d): nil", s.first)
	}
	return things{s, c, k, m}
}

func (x things) do(w *crew.Worker, c api.Call) api.Answer {
	var a api.Answer
	switch c.Kind {
	case 1:
		a.Err = x.counter.Add(w, c.A, c.B)
	case 2:
		a.N = x.counter.Sum(w)
	case 3:
		a.N = x.ticket.Next(w)
	case 4:
		a.N = x.ticket.Now(w)
	case 5:
		a.Ok, a.Err = x.marks.Set(w, c.A)
	case 6:
		a.Ok, a.Err = x.marks.Clear(w, c.A)
	case 7:
		a.Ok, a.Err = x.marks.Test(w, c.A)
	case 8:
		a.N = x.marks.Count(w)
	default:
		a.Err = api.ErrTallyCall
	}
	return a
}

// are tells whether the things are as a tally says it, as far as their own calls tell it.
func (x things) are(want api.Tally) bool {
	sum := 0
	for _, n := range want.Shards {
		sum += n
	}
	var set []int
	for i := range x.size.marks {
		if ok, _ := x.marks.Test(nil, i); ok {
			set = append(set, i)
		}
	}
	got := api.Tally{Shards: want.Shards, Ticket: x.ticket.Now(nil), Marks: set}
	return sameTally(got, want) && x.counter.Sum(nil) == sum && x.marks.Count(nil) == len(want.Marks)
}

func sameAnswer(a, b api.Answer) bool {
	return a.Ok == b.Ok && a.N == b.N && a.M == b.M && a.Err == b.Err && len(a.Ints) == 0 && len(a.Pairs) == 0 && len(b.Ints) == 0 && len(b.Pairs) == 0
}

// sameTally holds two tallies against each other; a nil list and an empty one are the same.
func sameTally(a, b api.Tally) bool { return reflect.DeepEqual(plainTally(a), plainTally(b)) }

func plainTally(x api.Tally) api.Tally {
	return api.Tally{Shards: append([]int(nil), x.Shards...), Ticket: x.Ticket, Marks: append([]int(nil), x.Marks...)}
}

func play(s size, c api.Case) (api.Run, api.Tally, api.Errno) {
	return tally.Play(s.shards, s.first, s.marks, c)
}

func wantPlay(t *testing.T, promise string, s size, c api.Case, want api.Run, left api.Tally) {
	t.Helper()
	run, got, err := play(s, c)
	if err != api.OK || !sameRun(run, want) || !sameTally(got, left) {
		t.Fatalf("%s: Play(%+v, %+v)\ngot  %+v %+v %v\nwant %+v %+v", promise, s, c, run, got, err, want, left)
	}
}

// wantModel holds a Play against the model.
func wantModel(t *testing.T, promise string, s size, c api.Case) (api.Run, api.Tally) {
	t.Helper()
	run, left := newModel(s).play(c)
	wantPlay(t, promise, s, c, run, left)
	return run, left
}

func work(calls ...[]api.Call) api.Case { return api.Case{Work: calls} }

const (
	lowest  = math.MinInt
	highest = math.MaxInt
)

var (
	farNumbers = []int{lowest, lowest + 1, -1 << 32, -65, -2, -1, 0, 1, 2, 31, 32, 63, 64, 1 << 32, highest - 1, highest}
	fewNumbers = []int{0, 1, 2, 3, 100}
	fewMarks   = []int{0, 1, 2, 30, 31, 32, 33, 62, 63, 64, 65, 69}
	fewHalts   = []int{lowest, -1, 0, 0, 0, 1, 2, 3, 4, 5, 8, highest}
	fewUntils  = []int{0, 0, 0, 0, 1, 2, 3, 7, 15, 19999, 20000}
)

// mixed: a Play's arguments.
type mixed struct {
	size size
	c    api.Case
}

// call: of some size; now and then one that can't be, if wild.
func (m *mixer) call(s size, wild bool) api.Call {
	c := api.Call{Kind: 1 + m.below(8), A: m.below(s.shards), B: m.one(fewNumbers)}
	if m.below(2) == 0 {
		c.Kind = 5 + m.below(3)
	}
	if c.Kind >= 5 {
		c.A = m.one(fewMarks) % s.marks
	}
	if !wild {
		return c
	}
	switch m.below(20) {
	case 0:
		c.Kind = m.one([]int{lowest, -1, 0, 9, 10, highest})
	case 1:
		c.A = m.one([]int{lowest, -1, s.shards, s.marks, s.marks + 1, highest})
	case 2:
		c.B = m.one(farNumbers)
	}
	return c
}

func (m *mixer) mixed(wild bool) mixed {
	x := mixed{size: size{1 + m.below(4), m.one([]int{0, 10, -3}), m.one([]int{1, 2, 31, 32, 33, 64, 70})}}
	if wild && m.below(3) == 0 {
		x.size.first = m.one(farNumbers)
	}
	for range 1 + m.below(5) {
		var calls []api.Call
		for range m.below(9) {
			calls = append(calls, m.call(x.size, wild))
		}
		x.c.Work = append(x.c.Work, calls)
	}
	for range m.below(40) {
		x.c.Turns = append(x.c.Turns, m.one(farNumbers)+m.below(8))
	}
	if m.below(2) == 0 {
		for range m.below(7) {
			x.c.Halt = append(x.c.Halt, m.one(fewHalts))
		}
		x.c.Until = m.one(fewUntils)
	}
	return x
}

// mixedPlays calls f with so many Plays' arguments.
func mixedPlays(count int, wild bool, f func(x mixed)) {
	m := mixer(count)
	for range count {
		f(m.mixed(wild))
	}
}
