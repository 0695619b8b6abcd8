package joint_test

import (
	"math"
	"reflect"
	"slices"
	"testing"

	"skein/api"
	"skein/crew"
	"skein/joint"
)

// The calls of Play, by their names.
func read(c int) api.Call { return api.Call{Kind: 1, A: c} }
func change(l ...api.Entry) api.Call {
	c := api.Call{Kind: 2}
	for _, e := range l {
		c.Pairs = append(c.Pairs, api.Pair{Key: e.Cell, Value: e.Old}, api.Pair{Key: e.Cell, Value: e.New})
	}
	return c
}
func move(from, to, n int) api.Call     { return api.Call{Kind: 3, A: from, B: to, C: n} }
func look() api.Call                    { return api.Call{Kind: 4} }
func work(calls ...[]api.Call) api.Case { return api.Case{Work: calls} }

// to: an entry of a Change.
func to(cell, old, new int) api.Entry { return api.Entry{Cell: cell, Old: old, New: new} }

// With ofSecond beside the Kind, the call of the second ones of two Cells; filming: a call that never ends, each line of which takes down what stands in all words.
const (
	ofSecond = 10
	filming  = 100
)

func second(c api.Call) api.Call {
	c.Kind += ofSecond
	return c
}

// What calls answer.
func well() api.Answer                { return api.Answer{Ok: true} }
func holds(n int) api.Answer          { return api.Answer{Ok: true, N: n} }
func shows(list ...int) api.Answer    { return api.Answer{Ok: true, Ints: list} }
func failed(err api.Errno) api.Answer { return api.Answer{Err: err} }

const (
	lowest  = math.MinInt
	highest = math.MaxInt
)

// real: Cells side by side, and what was filmed.
type real struct {
	all  []*joint.Cells
	film [][]int
}

func newReal(t *testing.T, firsts ...[]int) *real {
	t.Helper()
	b := &real{}
	for _, first := range firsts {
		x, err := joint.New(first)
		if err != api.OK || x == nil {
			t.Fatalf("P26.1: New(%v): %v, %v", first, x, err)
		}
		b.all = append(b.all, x)
	}
	return b
}

func (b *real) frame() []int {
	var list []int
	for _, x := range b.all {
		list = append(list, x.Words()...)
		for k := range 8 {
			statuses := x.Statuses(k)
			list = append(append(list, len(statuses)), statuses...)
		}
	}
	return list
}

// Do does calls by their names.
func (b *real) Do(w *crew.Worker, c api.Call) api.Answer {
	for c.Kind == filming {
		w.Step()
		b.film = append(b.film, b.frame())
	}
	of := b.all[0]
	if c.Kind > ofSecond && len(b.all) > 1 {
		of = b.all[1]
		c.Kind -= ofSecond
	}
	var a api.Answer
	switch c.Kind {
	case 1:
		a.N, a.Err = of.Read(w, c.A)
		a.Ok = a.Err == api.OK
	case 2:
		l, told := entriesOf(c.Pairs)
		if !told {
			w.Step()
			return failed(api.ErrJointCall)
		}
		a.Ok, a.Err = of.Change(w, l)
	case 3:
		a.Ok, a.Err = of.Move(w, c.A, c.B, c.C)
	case 4:
		a.Ints, a.Err = of.Look(w)
		a.Ok = a.Err == api.OK
	default:
		w.Step()
		a.Err = api.ErrJointCall
	}
	return a
}

func sameAnswer(a, b api.Answer) bool {
	a.Begin, a.End, a.Own = b.Begin, b.End, b.Own
	return reflect.DeepEqual(plainRun(api.Run{Answers: [][]api.Answer{{a}}}), plainRun(api.Run{Answers: [][]api.Answer{{b}}}))
}

func wantPlay(t *testing.T, promise string, first []int, c api.Case, want api.Run, values []int) {
	t.Helper()
	run, got, err := joint.Play(first, c)
	if err != api.OK || !sameRun(run, want) || !slices.Equal(got, values) {
		t.Fatalf("%s: Play(%v, %+v)\ngot  %+v %v %v\nwant %+v %v", promise, first, c, run, got, err, want, values)
	}
}

// wantModel holds a Play against the model.
func wantModel(t *testing.T, promise string, first []int, c api.Case) (api.Run, *joined) {
	t.Helper()
	m := newModel(first)
	run := modelRun(c, m.begin)
	wantPlay(t, promise, first, c, run, m.values())
	return run, m.all[0]
}

// wantNamed holds calls by their names, of a run over new Cells, and what stands in all words behind it and at what was filmed, against the model.
func wantNamed(t *testing.T, promise string, c api.Case, firsts ...[]int) (*real, *model) {
	t.Helper()
	b, m := newReal(t, firsts...), newModel(firsts...)
	got, err := crew.Run(c, b)
	want := modelRun(c, m.begin)
	b.film, m.film = append(b.film, b.frame()), append(m.film, m.frame())
	if err != api.OK || !sameRun(got, want) {
		t.Fatalf("%s: %v, %+v\ngot  %+v %v\nwant %+v", promise, firsts, c, got, err, want)
	}
	for i := range m.film {
		if i >= len(b.film) || !slices.Equal(b.film[i], m.film[i]) {
			t.Fatalf("%s: %v, %+v, frame %d\ngot  %v\nwant %v", promise, firsts, c, i, b.film[i:], m.film[i])
		}
	}
	return b, m
}

// filmed: a case with a worker more, who films behind each of its turns.
func filmed(c api.Case, turns int) api.Case {
	n := len(c.Work)
	f := api.Case{Work: append(slices.Clone(c.Work), []api.Call{{Kind: filming}}), Halt: c.Halt[:min(n, len(c.Halt))], Until: 2 * turns}
	for i := range turns {
		turn := i
		if i < len(c.Turns) {
			turn = c.Turns[i]
		}
		f.Turns = append(f.Turns, turn, -1) // -1: the last one that is ready
	}
	return f
}

// stepwise: a case that does just these lines: of pairs of numbers a worker, and how many. Behind its calls each worker has one that isn't begun, so that all are ready always and a turn is a worker's number.
func stepwise(c api.Case, list ...int) api.Case {
	c.Work = slices.Clone(c.Work)
	for k, calls := range c.Work {
		c.Work[k] = append(slices.Clone(calls), look())
	}
	for i := 0; i < len(list); i += 2 {
		c.Turns = append(c.Turns, slices.Repeat([]int{list[i]}, list[i+1])...)
	}
	c.Until = len(c.Turns)
	return c
}

// by: a case of calls of worker k alone.
func by(k int, calls ...api.Call) api.Case {
	c := api.Case{Work: make([][]api.Call, k+1)}
	c.Work[k] = calls
	return c
}

// own: an answer in so many lines.
func own(lines int, a api.Answer) api.Answer {
	a.Own = lines
	return a
}

// steps: a run of the last one of some workers, its answers one behind the other.
func steps(k int, answers ...api.Answer) api.Run {
	at := 0
	for i := range answers {
		answers[i].Begin, answers[i].End = at+1, at+answers[i].Own
		at += answers[i].Own
	}
	r := api.Run{Answers: make([][]api.Answer, k+1), Steps: at}
	r.Answers[k] = answers
	return r
}

// firsts: what n cells hold at first.
func firsts(n int) []int {
	list := make([]int, n)
	for c := range list {
		list[c] = 10 * (c + 1)
	}
	return list
}

// noCells: numbers of cells that n cells haven't.
func noCells(n int) []int {
	return []int{lowest, lowest + 1, -1 << 32, -65, -64, -2, -1, n, n + 1, 64 + n, 1 << 32, 1 << 40, highest - 1, highest}
}

// noValues: numbers that no cell can hold.
var noValues = []int{lowest, lowest + 1, -1 << 40, -1 << 20, -2, -1, 1 << 20, 1<<20 + 1, 1 << 32, 1 << 40, highest - 1, highest}

// takesLong: left out where it would take too long.
func takesLong(t *testing.T) {
	t.Helper()
	if testing.Short() {
		t.Skip("it takes long")
	}
}
