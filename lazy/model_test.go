package lazy_test

import (
	"errors"
	"math"
	"slices"
	"testing"

	"skein/api"
	"skein/crew"
	"skein/lazy"
)

// The calls of Play, by their names.
func once(i int) api.Call      { return api.Call{Kind: 1, A: i} }
func retry(i int) api.Call     { return api.Call{Kind: 2, A: i} }
func place(i int) api.Call     { return api.Call{Kind: 3, A: i} }
func all() api.Call            { return api.Call{Kind: 4} }
func made() api.Call           { return api.Call{Kind: 5} }
func onceDone(i int) api.Call  { return api.Call{Kind: 6, A: i} }
func retryDone(i int) api.Call { return api.Call{Kind: 7, A: i} }

// Makers of Play: one that makes v, one that fails first, one that falls first.
func makes(v int) api.Maker        { return api.Maker{Value: v} }
func fails(times, v int) api.Maker { return api.Maker{Fails: times, Value: v} }
func falls(times, v int) api.Maker { return api.Maker{Fails: times, Value: v, Falls: true} }

// kept: what the model keeps of one value; retry: it is a Retry's.
type kept struct {
	maker api.Maker
	calls int
	done  bool
	err   api.Errno
	retry bool
}

func (k *kept) get() (int, api.Errno) {
	if k.calls == 0 || k.retry && !k.done {
		k.calls++
		switch {
		case k.calls > k.maker.Fails:
			k.done, k.err = true, 0
		case k.maker.Falls:
			k.err = 73
		default:
			k.err = 72
		}
	}
	if k.done {
		return k.maker.Value, 0
	}
	return 0, k.err
}

// model: of each maker a Once, a Retry and the table's Once, as the chapter's lines say them.
type model [][3]*kept

func newModel(makers []api.Maker) model {
	var m model
	for _, x := range makers {
		m = append(m, [3]*kept{{maker: x}, {maker: x, retry: true}, {maker: x}})
	}
	return m
}

func (m model) begin(_ int, c api.Call) line {
	if c.Kind < 1 || c.Kind > 7 {
		return func() (api.Answer, bool) { return api.Answer{Err: 70}, true }
	}
	if c.Kind != 4 && c.Kind != 5 && (c.A < 0 || c.A >= len(m)) {
		return func() (api.Answer, bool) { return api.Answer{Err: 71}, true }
	}
	var values []int
	return func() (api.Answer, bool) {
		var a api.Answer
		switch c.Kind {
		case 1, 2, 3:
			a.N, a.Err = m[c.A][c.Kind-1].get()
		case 4:
			v, err := m[len(values)][2].get()
			if err != 0 {
				return api.Answer{Err: err}, true
			}
			if values = append(values, v); len(values) < len(m) {
				return a, false
			}
			a.Ints = values
		case 5:
			for i := range m {
				if m[i][2].done {
					a.Ints = append(a.Ints, i)
				}
			}
		case 6, 7:
			a.Ok = m[c.A][c.Kind-6].done
		}
		return a, true
	}
}

func (m model) made() []api.Made {
	var list []api.Made
	for _, three := range m {
		var x api.Made
		for i, k := range three {
			x.Calls[i], x.Done[i] = k.calls, k.done
			if k.done {
				x.Values[i] = k.maker.Value
			}
		}
		list = append(list, x)
	}
	return list
}

func (m model) play(c api.Case) (api.Run, []api.Made) {
	run := modelRun(c, m.begin)
	return run, m.made()
}

// alone does a call with all its lines at once.
func (m model) alone(c api.Call) api.Answer {
	l := m.begin(0, c)
	for {
		if a, ended := l(); ended {
			return a
		}
	}
}

// odd: an error that can't even tell itself.
type odd struct{}

func (odd) Error() string { panic("no text") }

// fall panics, each time with something else.
func fall(i int) {
	var none []int
	var no map[int]int
	switch i % 9 {
	case 0:
		panic("a text")
	case 1:
		panic(errors.New("an error"))
	case 2:
		panic(i)
	case 3:
		panic(nil)
	case 4:
		panic(none[i])
	case 5:
		no[i]++
	case 6:
		panic(i / len(none))
	case 7:
		panic(odd{})
	}
	defer panic("one more")
	panic("a first one")
}

// counted: a maker as a function, and how often it was called.
type counted struct {
	told  api.Maker
	calls int
}

func (m *counted) ask() (int, bool) {
	m.calls++
	if m.calls > m.told.Fails {
		return m.told.Value, true
	}
	if m.told.Falls {
		fall(m.calls + m.told.Value%9 + 9)
	}
	return 40 + m.calls, false
}

// things: what Play makes of makers, whose calls are called by their names.
type things struct {
	makers  [][3]*counted
	onces   []*lazy.Once
	retries []*lazy.Retry
	table   *lazy.Table
}

func newThings(t *testing.T, makers []api.Maker) *things {
	t.Helper()
	x := &things{}
	for _, told := range makers {
		three := [3]*counted{{told: told}, {told: told}, {told: told}}
		x.makers = append(x.makers, three)
		x.onces = append(x.onces, lazy.NewOnce(three[0].ask))
		x.retries = append(x.retries, lazy.NewRetry(three[1].ask))
	}
	x.table = newTable(t, len(makers), func(i int) (int, bool) { return x.makers[i][2].ask() })
	return x
}

func newTable(t *testing.T, n int, f func(i int) (int, bool)) *lazy.Table {
	t.Helper()
	table, err := lazy.NewTable(n, f)
	if err != api.OK || table == nil {
		t.Fatalf("P7.3: NewTable(%d): %v, %v", n, table, err)
	}
	return table
}

// do does a call; of a Once or a Retry that isn't there Play's words hold.
func (x *things) do(w *crew.Worker, c api.Call) api.Answer {
	var a api.Answer
	if c.Kind < 1 || c.Kind > 7 {
		a.Err = api.ErrLazyCall
		return a
	}
	if has := 0 <= c.A && c.A < len(x.onces); !has && c.Kind != 3 && c.Kind != 4 && c.Kind != 5 {
		a.Err = api.ErrLazyMaker
		return a
	}
	switch c.Kind {
	case 1:
		a.N, a.Err = x.onces[c.A].Get(w)
	case 2:
		a.N, a.Err = x.retries[c.A].Get(w)
	case 3:
		a.N, a.Err = x.table.Get(w, c.A)
	case 4:
		a.Ints, a.Err = x.table.All(w)
	case 5:
		a.Ints = x.table.Made(w)
	case 6:
		a.Ok = x.onces[c.A].Done(w)
	case 7:
		a.Ok = x.retries[c.A].Done(w)
	}
	return a
}

// made tells what came of the makers; of what isn't made no value is asked.
func (x *things) made() []api.Made {
	var list []api.Made
	there := x.table.Made(nil)
	for i, three := range x.makers {
		var m api.Made
		for k := range three {
			m.Calls[k] = three[k].calls
		}
		m.Done = [3]bool{x.onces[i].Done(nil), x.retries[i].Done(nil), slices.Contains(there, i)}
		for k, done := range m.Done {
			if done {
				m.Values[k] = x.do(nil, api.Call{Kind: k + 1, A: i}).N
			}
		}
		list = append(list, m)
	}
	return list
}

func sameAnswer(a, b api.Answer) bool {
	return a.Ok == b.Ok && a.N == b.N && a.M == b.M && a.Err == b.Err && slices.Equal(a.Ints, b.Ints) && len(a.Pairs) == 0 && len(b.Pairs) == 0
}

func wantPlay(t *testing.T, promise string, makers []api.Maker, c api.Case, want api.Run, made []api.Made) {
	t.Helper()
	run, got, err := lazy.Play(makers, c)
	if err != api.OK || !sameRun(run, want) || !slices.Equal(got, made) {
		t.Fatalf("%s: Play(%v, %+v)\ngot  %+v %v %v\nwant %+v %v", promise, makers, c, run, got, err, want, made)
	}
}

// wantModel holds a Play against the model.
func wantModel(t *testing.T, promise string, makers []api.Maker, c api.Case) (api.Run, []api.Made) {
	t.Helper()
	run, made := newModel(makers).play(c)
	wantPlay(t, promise, makers, c, run, made)
	return run, made
}

func work(calls ...[]api.Call) api.Case { return api.Case{Work: calls} }

const (
	lowest  = math.MinInt
	highest = math.MaxInt
)

var (
	farNumbers = []int{lowest, lowest + 1, -1 << 32, -65, -2, -1, 0, 1, 2, 63, 64, 65, 1 << 32, highest - 1, highest}
	fewHalts   = []int{lowest, -1, 0, 0, 0, 1, 2, 3, 4, 5, 8, highest}
	fewUntils  = []int{0, 0, 0, 0, 1, 2, 3, 7, 15, 19999, 20000}
)

// mixed: a Play's arguments.
type mixed struct {
	makers []api.Maker
	c      api.Case
}

// call: over so many makers; now and then one that can't be, if wild.
func (m *mixer) call(count int, wild bool) api.Call {
	c := api.Call{Kind: m.one([]int{1, 1, 1, 2, 2, 2, 2, 3, 3, 4, 5, 5, 6, 7}), A: m.below(count)}
	if !wild {
		return c
	}
	switch m.below(15) {
	case 0:
		c.Kind = m.one([]int{lowest, -1, 0, 8, 9, highest})
	case 1:
		c.A = m.one([]int{lowest, -1, count, count + 1, highest})
	case 2:
		c.B, c.C = m.one(farNumbers), m.one(farNumbers)
	}
	return c
}

func (m *mixer) maker() api.Maker {
	fewFails := []int{lowest, -1, 0, 0, 0, 0, 0, 1, 1, 2, 3, highest}
	return api.Maker{Fails: m.one(fewFails), Falls: m.below(2) == 0, Value: m.one(farNumbers)}
}

func (m *mixer) mixed(wild bool) mixed {
	x := mixed{}
	for range 1 + m.below(5) {
		x.makers = append(x.makers, m.maker())
	}
	for range 1 + m.below(5) {
		var calls []api.Call
		for range m.below(12) {
			calls = append(calls, m.call(len(x.makers), wild))
		}
		x.c.Work = append(x.c.Work, calls)
	}
	for range m.below(40) {
		x.c.Turns = append(x.c.Turns, m.one(farNumbers)+m.below(8))
	}
	if m.below(2) == 0 {
		for range m.below(7) {
			x.c.Halt = append(x.c.Halt, m.one(fewHalts))
		}
		x.c.Until = m.one(fewUntils)
	}
	return x
}

// mixedPlays calls f with so many Plays' arguments.
func mixedPlays(count int, wild bool, f func(x mixed)) {
	m := mixer(count)
	for range count {
		f(m.mixed(wild))
	}
}
