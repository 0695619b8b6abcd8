package census_test

import (
	"math"
	"reflect"
	"slices"
	"testing"

	"skein/api"
	"skein/census"
	"skein/crew"
)

// The calls of Play, by their names.
func update(v int) api.Call             { return api.Call{Kind: 1, A: v} }
func scan() api.Call                    { return api.Call{Kind: 2} }
func read(k int) api.Call               { return api.Call{Kind: 3, A: k} }
func total() api.Call                   { return api.Call{Kind: 4} }
func work(calls ...[]api.Call) api.Case { return api.Case{Work: calls} }

// With this beside the Kind, the call of a second census.
const ofSecond = 10

func second(c api.Call) api.Call {
	c.Kind += ofSecond
	return c
}

// What calls answer.
func number(n int) api.Answer                  { return api.Answer{Ok: true, N: n} }
func stood(value, number int) api.Answer       { return api.Answer{Ok: true, N: value, M: number} }
func sees(valuesThenNumbers ...int) api.Answer { return api.Answer{Ok: true, Ints: valuesThenNumbers} }
func failed(err api.Errno) api.Answer          { return api.Answer{Err: err} }

const (
	lowest  = math.MinInt
	highest = math.MaxInt
)

// stands: how a word stands.
type stands struct{ value, number int }

// moment: how all words stand.
type moment []stands

func (m moment) values() []int {
	var list []int
	for _, s := range m {
		list = append(list, s.value)
	}
	return list
}

func (m moment) numbers() []int {
	var list []int
	for _, s := range m {
		list = append(list, s.number)
	}
	return list
}

func (m moment) ints() []int { return slices.Concat(m.values(), m.numbers()) }

func (m moment) sum() int {
	sum := 0
	for _, s := range m {
		sum += s.value
	}
	return sum
}

func (m moment) seen() api.Seen { return api.Seen{Values: m.values(), Numbers: m.numbers()} }

func sameSeen(a, b api.Seen) bool {
	return slices.Equal(a.Values, b.Values) && slices.Equal(a.Numbers, b.Numbers)
}

// cell: a word and its view.
type cell struct {
	stands
	view moment
}

func momentOf(cells []cell) moment {
	var m moment
	for _, c := range cells {
		m = append(m, c.stands)
	}
	return m
}

// next: a call's next line; it tells the one behind it, or, if there is none, the answer.
type next func() (api.Answer, next)

// end: the call has ended with this line.
func end(a api.Answer) (api.Answer, next) { return a, nil }

// on: the call goes on with another line.
func on(n next) (api.Answer, next) { return api.Answer{}, n }

func failing(err api.Errno) next {
	return func() (api.Answer, next) { return end(failed(err)) }
}

// counted: a census as the chapter's lines say it.
type counted struct {
	words []cell
	lent  int // Scans that answered a word's view
}

func newCounted(first []int) *counted {
	c := &counted{}
	for _, v := range first {
		c.words = append(c.words, cell{stands: stands{value: v}})
	}
	for k := range c.words {
		c.words[k].view = momentOf(c.words)
	}
	return c
}

// collect: with its last line comes then.
func (c *counted) collect(got []cell, then func(all []cell) (api.Answer, next)) next {
	return func() (api.Answer, next) {
		got := append(slices.Clone(got), c.words[len(got)])
		if len(got) < len(c.words) {
			return on(c.collect(got, then))
		}
		return then(got)
	}
}

func (c *counted) look(then func(m moment) (api.Answer, next)) next {
	return c.collect(nil, func(a []cell) (api.Answer, next) {
		return on(c.again(a, map[int]int{}, then))
	})
}

func (c *counted) again(a []cell, moved map[int]int, then func(m moment) (api.Answer, next)) next {
	return c.collect(nil, func(b []cell) (api.Answer, next) {
		if slices.Equal(momentOf(a).numbers(), momentOf(b).numbers()) {
			return then(momentOf(b))
		}
		for k := range b {
			if a[k].number == b[k].number {
				continue
			}
			if moved[k]++; moved[k] == 2 {
				c.lent++
				return then(b[k].view)
			}
		}
		return on(c.again(b, moved, then))
	})
}

func (c *counted) update(k, v int) next {
	return c.look(func(s moment) (api.Answer, next) {
		return on(func() (api.Answer, next) {
			n := c.words[k].number + 1
			c.words[k] = cell{stands{v, n}, s}
			return end(number(n))
		})
	})
}

func (c *counted) lines(k int, call api.Call) next {
	switch {
	case call.Kind == 1 && k >= len(c.words), call.Kind == 3 && (call.A < 0 || call.A >= len(c.words)):
		return failing(252)
	case call.Kind == 1:
		return c.update(k, call.A)
	case call.Kind == 2:
		return c.look(func(m moment) (api.Answer, next) { return end(sees(m.ints()...)) })
	case call.Kind == 3:
		return func() (api.Answer, next) { return end(stood(c.words[call.A].value, c.words[call.A].number)) }
	case call.Kind == 4:
		return c.look(func(m moment) (api.Answer, next) { return end(number(m.sum())) })
	}
	return failing(250)
}

// model: censuses side by side.
type model []*counted

func newModel(firsts ...[]int) model {
	var m model
	for _, first := range firsts {
		m = append(m, newCounted(first))
	}
	return m
}

func (m model) words() []api.Seen {
	var list []api.Seen
	for _, c := range m {
		list = append(list, momentOf(c.words).seen())
	}
	return list
}

func (m model) begin(k int, c api.Call) line {
	of := m[0]
	if c.Kind > ofSecond && len(m) > 1 {
		of = m[1]
		c.Kind -= ofSecond
	}
	n := of.lines(k, c)
	return func() (api.Answer, bool) {
		a, then := n()
		n = then
		return a, n == nil
	}
}

// alone does a call of worker 0 with all its lines at once.
func (m model) alone(c api.Call) api.Answer {
	l := m.begin(0, c)
	for {
		if a, ended := l(); ended {
			return a
		}
	}
}

// real: censuses side by side.
type real []*census.Census

func newReal(t *testing.T, firsts ...[]int) real {
	t.Helper()
	var b real
	for _, first := range firsts {
		c, err := census.New(first)
		if err != api.OK || c == nil {
			t.Fatalf("P25.1: New(%v): %v, %v", first, c, err)
		}
		b = append(b, c)
	}
	return b
}

func (b real) words() []api.Seen {
	var list []api.Seen
	for _, c := range b {
		list = append(list, c.Words())
	}
	return list
}

// Do does calls by their names.
func (b real) Do(w *crew.Worker, c api.Call) api.Answer {
	of := b[0]
	if c.Kind > ofSecond && len(b) > 1 {
		of = b[1]
		c.Kind -= ofSecond
	}
	var a api.Answer
	switch c.Kind {
	case 1:
		a.N, a.Err = of.Update(w, c.A)
	case 2:
		s := of.Scan(w)
		a.Ints = slices.Concat(s.Values, s.Numbers)
		if len(s.Values) != len(s.Numbers) {
			a.Ints = nil
		}
	case 3:
		a.N, a.M, a.Err = of.Read(w, c.A)
	case 4:
		a.N = of.Total(w)
	default:
		w.Step()
		a.Err = api.ErrCensusCall
	}
	a.Ok = a.Err == api.OK
	return a
}

func sameAnswer(a, b api.Answer) bool {
	a.Begin, a.End, a.Own = b.Begin, b.End, b.Own
	return reflect.DeepEqual(plainRun(api.Run{Answers: [][]api.Answer{{a}}}), plainRun(api.Run{Answers: [][]api.Answer{{b}}}))
}

func wantPlay(t *testing.T, promise string, first []int, c api.Case, want api.Run, words api.Seen) {
	t.Helper()
	run, got, err := census.Play(first, c)
	if err != api.OK || !sameRun(run, want) || !sameSeen(got, words) {
		t.Fatalf("%s: Play(%v, %+v)\ngot  %+v %v %v\nwant %+v %v", promise, first, c, run, got, err, want, words)
	}
}

// wantModel holds a Play against the model.
func wantModel(t *testing.T, promise string, first []int, c api.Case) (api.Run, *counted) {
	t.Helper()
	m := newModel(first)
	run := modelRun(c, m.begin)
	wantPlay(t, promise, first, c, run, m.words()[0])
	return run, m[0]
}

// wantNamed holds calls by their names, of a run over new censuses, against the model.
func wantNamed(t *testing.T, promise string, c api.Case, firsts ...[]int) (api.Run, model) {
	t.Helper()
	b, m := newReal(t, firsts...), newModel(firsts...)
	got, err := crew.Run(c, b)
	want := modelRun(c, m.begin)
	if err != api.OK || !sameRun(got, want) || !slices.EqualFunc(b.words(), m.words(), sameSeen) {
		t.Fatalf("%s: %v, %+v\ngot  %+v %v %v\nwant %+v %v", promise, firsts, c, got, b.words(), err, want, m.words())
	}
	return got, m
}

// stepwise: a case that does just these lines: of pairs of numbers a worker, and how many. Behind its calls each worker has one that isn't begun, so that all are ready always and a turn is a worker's number.
func stepwise(c api.Case, list ...int) api.Case {
	c.Work = slices.Clone(c.Work)
	for k, calls := range c.Work {
		c.Work[k] = append(slices.Clone(calls), scan())
	}
	for i := 0; i < len(list); i += 2 {
		c.Turns = append(c.Turns, slices.Repeat([]int{list[i]}, list[i+1])...)
	}
	c.Until = len(c.Turns)
	return c
}

// by: a case of calls of worker k alone.
func by(k int, calls ...api.Call) api.Case {
	c := api.Case{Work: make([][]api.Call, k+1)}
	c.Work[k] = calls
	return c
}

// own: an answer in so many lines.
func own(lines int, a api.Answer) api.Answer {
	a.Own = lines
	return a
}

// steps: a run of the last one of some workers, its answers one behind the other.
func steps(k int, answers ...api.Answer) api.Run {
	at := 0
	for i := range answers {
		answers[i].Begin, answers[i].End = at+1, at+answers[i].Own
		at += answers[i].Own
	}
	r := api.Run{Answers: make([][]api.Answer, k+1), Steps: at}
	r.Answers[k] = answers
	return r
}

// firsts: what n words hold at first.
func firsts(n int) []int {
	list := make([]int, n)
	for k := range list {
		list[k] = 100 * (k + 1)
	}
	return list
}

var (
	farNumbers = []int{lowest, lowest + 1, -1 << 32, -65, -2, -1, 0, 1, 2, 63, 64, 65, 1 << 32, highest - 1, highest}
	fewHalts   = []int{lowest, -1, 0, 0, 0, 1, 2, 3, 4, 5, 8, 12, 20, highest}
	fewUntils  = []int{0, 0, 0, 0, 1, 2, 3, 7, 15, 40, 19999, 20000}
)

// noWords: numbers of words that a census of n hasn't.
func noWords(n int) []int {
	list := []int{lowest, lowest + 1, -1 << 32, -8, -2, -1, n, n + 1, 8, 9, 64, 1 << 32, 1<<32 + 1, highest - 1, highest}
	for k := n; k < 8; k++ {
		list = append(list, k)
	}
	return list
}

// manners: which calls come.
type manners struct {
	wild  bool // calls that can't be, workers that have no word
	both  bool // calls of a second census
	stops bool // halts and cuts always
	plain bool // Updates' values are all one
}

func (m *mixer) call(n int, how manners) api.Call {
	if how.wild && m.below(10) == 0 {
		bad := []api.Call{read(m.one(noWords(n))), read(m.one(noWords(n))), {Kind: 0}, {Kind: -1}, {Kind: 5}, {Kind: lowest}, {Kind: highest}}
		return bad[m.below(len(bad))]
	}
	var c api.Call
	switch m.below(10) {
	case 0, 1, 2, 3:
		c = update(m.one(farNumbers))
		if how.plain {
			c = update(7)
		}
	case 4, 5, 6:
		c = scan()
	case 7:
		c = read(m.below(n))
	case 8:
		c = total()
	default:
		c = update(m.below(1000))
		if how.plain {
			c = update(7)
		}
	}
	if how.both && m.below(2) == 0 {
		return second(c)
	}
	return c
}

// mixed: what a run is of.
type mixed struct {
	first []int
	c     api.Case
}

func (m *mixer) mixed(how manners) mixed {
	n := 1 + m.below(4)
	var x mixed
	for range n {
		v := m.one(farNumbers)
		if how.plain {
			v = 7
		}
		x.first = append(x.first, v)
	}
	workers := n + m.below(2)
	if how.wild {
		workers = 1 + m.below(6)
	}
	for range workers {
		var calls []api.Call
		for range m.below(12) {
			calls = append(calls, m.call(n, how))
		}
		x.c.Work = append(x.c.Work, calls)
	}
	// A worker that goes on for a whole Update, again and again, makes that others see it move twice.
	for range m.below(60) {
		k, times := m.one(farNumbers)+m.below(8), 1
		if m.below(2) == 0 {
			times = m.below(2*n + 4)
		}
		x.c.Turns = append(x.c.Turns, slices.Repeat([]int{k}, times)...)
	}
	if how.stops || m.below(2) == 0 {
		for range m.below(7) {
			x.c.Halt = append(x.c.Halt, m.one(fewHalts))
		}
		x.c.Until = m.one(fewUntils)
	}
	return x
}

// mixedRuns calls f with so many cases.
func mixedRuns(seed, count int, how manners, f func(x mixed)) {
	m := mixer(seed)
	for range count {
		f(m.mixed(how))
	}
}

// takesLong: left out where it would take too long.
func takesLong(t *testing.T) {
	t.Helper()
	if testing.Short() {
		t.Skip("it takes long")
	}
}
