package clock_test

import (
	"iter"
	"math"
	"reflect"
	"slices"
	"testing"

	"skein/api"
	"skein/clock"
	"skein/crew"
)

// The calls of Play, by their names; r is a register.
func take(r int) api.Call    { return api.Call{Kind: 1, A: r} }
func release(r int) api.Call { return api.Call{Kind: 2, A: r} }
func least() api.Call        { return api.Call{Kind: 3} }
func now() api.Call          { return api.Call{Kind: 4} }
func holds(r int) api.Call   { return api.Call{Kind: 5, A: r} }
func free(i int) api.Call    { return api.Call{Kind: 6, A: i} }

// kindSnap: a named call that Play hasn't: Holds of a snapshot that is told by itself.
const kindSnap = 105

func holdsSnap(lease, stamp int) api.Call { return api.Call{Kind: kindSnap, A: lease, B: stamp} }

func work(calls ...[]api.Call) api.Case { return api.Case{Work: calls} }

const (
	lowest  = math.MinInt
	highest = math.MaxInt
	most    = 64 // leases
)

// state: all that a clock tells of itself.
type state struct {
	now    int
	leases []int
}

func (s state) same(o state) bool { return s.now == o.now && slices.Equal(s.leases, o.leases) }

func (s state) rows() [][]int { return [][]int{{s.now}, s.leases} }

// moment: a state, by its now and its leases.
func moment(now int, leases ...int) state { return state{now, leases} }

// with: the same, but for one lease.
func (s state) with(i, is int) state {
	s.leases = slices.Clone(s.leases)
	s.leases[i] = is
	return s
}

// at: the same, but for now.
func (s state) at(now int) state {
	s.now = now
	return s
}

// sameLists holds lists against each other; a nil list and an empty one are the same.
func sameLists(a, b [][]int) bool { return slices.EqualFunc(a, b, slices.Equal) }

// model: a clock and the registers of a Play, as the chapter's lines say them.
type model struct {
	state
	regs  [8][4]*api.Snap
	stops []func()
}

func newModel(leases int) *model { return &model{state: moment(1, make([]int, leases)...)} }

// told: what there is now; the model goes on.
func (m *model) told() state { return state{m.now, slices.Clone(m.leases)} }

// doing: a call that is being done; step asks for its next line.
type doing struct {
	*model
	k    int
	step func()
}

func (d doing) take() (api.Snap, api.Errno) {
	i := 0
	for {
		if i == len(d.leases) {
			return api.Snap{}, 132
		}
		d.step()
		if d.leases[i] == 0 {
			d.leases[i] = 1
			break
		}
		i++
	}
	d.step() // a
	t := d.now
	for {
		d.step() // b
		d.leases[i] = t + 1
		d.step() // c
		if d.now == t {
			break
		}
		t = d.now
	}
	d.step() // d
	if d.now == t {
		d.now = t + 1
	}
	return api.Snap{Lease: i, Stamp: t}, 0
}

func (d doing) release(i int) api.Errno {
	d.step()
	if i < 0 || i >= len(d.leases) {
		return 133
	}
	was := d.leases[i]
	d.leases[i] = 0
	if was == 0 {
		return 133
	}
	return 0
}

func (d doing) holds(s api.Snap) bool {
	d.step()
	if s.Lease < 0 || s.Lease >= len(d.leases) || s.Stamp < 1 || s.Stamp == highest {
		return false
	}
	return d.leases[s.Lease] == s.Stamp+1
}

func (d doing) least() int {
	d.step()
	m := d.now
	for i := range d.leases {
		d.step()
		if is := d.leases[i]; is != 0 && is-1 < m {
			m = is - 1
		}
	}
	return m
}

// idle: a line without an access.
func (d doing) idle(err api.Errno) api.Answer {
	d.step()
	return api.Answer{Err: err}
}

func snapAnswer(s api.Snap, err api.Errno) api.Answer {
	return api.Answer{Ok: err == 0, N: s.Lease, M: s.Stamp, Err: err}
}

func okAnswer(err api.Errno) api.Answer { return api.Answer{Ok: err == 0, Err: err} }

// plain: a call that needs no register.
func (d doing) plain(c api.Call) api.Answer {
	switch c.Kind {
	case 3:
		return api.Answer{Ok: true, N: d.least()}
	case 4:
		d.step()
		return api.Answer{Ok: true, N: d.now}
	case 6:
		return okAnswer(d.release(c.A))
	}
	return d.idle(130)
}

// named does a call by its name.
func (d doing) named(c api.Call) api.Answer {
	switch c.Kind {
	case 1:
		return snapAnswer(d.take())
	case kindSnap:
		return api.Answer{Ok: d.holds(api.Snap{Lease: c.A, Stamp: c.B})}
	}
	return d.plain(c)
}

// play does a call of Play's.
func (d doing) play(c api.Call) api.Answer {
	if c.Kind != 1 && c.Kind != 2 && c.Kind != 5 {
		return d.plain(c)
	}
	if c.A < 0 || c.A > 3 {
		return d.idle(130)
	}
	r := &d.regs[d.k][c.A]
	switch {
	case c.Kind == 1 && *r != nil:
		return d.idle(130)
	case c.Kind == 1:
		s, err := d.take()
		if err == 0 {
			*r = &s
		}
		return snapAnswer(s, err)
	case *r == nil:
		return d.idle(133)
	case c.Kind == 5:
		return api.Answer{Ok: d.holds(**r)}
	}
	s := **r
	*r = nil
	return okAnswer(d.release(s.Lease))
}

// cutOff: a call of the model's is let go.
type cutOff struct{}

// begin tells a call line by line.
func (m *model) begin(isPlay bool) func(k int, c api.Call) line {
	return func(k int, c api.Call) line {
		var a api.Answer
		next, stop := iter.Pull(func(yield func(int) bool) {
			defer func() {
				if r := recover(); r != nil && r != any(cutOff{}) {
					panic(r)
				}
			}()
			d := doing{m, k, func() {
				if !yield(0) {
					panic(cutOff{})
				}
			}}
			if isPlay {
				a = d.play(c)
			} else {
				a = d.named(c)
			}
		})
		m.stops = append(m.stops, stop)
		_, more := next() // up to its first line
		return func() (api.Answer, bool) {
			if more {
				_, more = next()
			}
			return a, !more
		}
	}
}

// run does a case, line by line.
func (m *model) run(c api.Case, isPlay bool) api.Run {
	run := modelRun(c, m.begin(isPlay))
	for _, stop := range m.stops {
		stop()
	}
	m.stops = nil
	return run
}

// alone does a named call with all its lines at once; Own tells how many.
func (m *model) alone(c api.Call) api.Answer {
	lines := 0
	a := doing{m, 0, func() { lines++ }}.named(c)
	a.Own = lines
	return a
}

// real: a clock, whose calls are done by their names.
type real struct{ c *clock.Clock }

func newReal(t *testing.T, leases int) real {
	t.Helper()
	c, err := clock.New(leases)
	if err != api.OK {
		t.Fatalf("P13.1: New(%d): %v", leases, err)
	}
	return real{c}
}

func (r real) state() state { return state{r.c.Now(nil), r.c.Leases()} }

func (r real) Do(w *crew.Worker, c api.Call) api.Answer {
	switch c.Kind {
	case 1:
		return snapAnswer(r.c.Take(w))
	case 3:
		return api.Answer{Ok: true, N: r.c.Least(w)}
	case 4:
		return api.Answer{Ok: true, N: r.c.Now(w)}
	case 6:
		return okAnswer(r.c.Release(w, c.A))
	case kindSnap:
		return api.Answer{Ok: r.c.Holds(w, api.Snap{Lease: c.A, Stamp: c.B})}
	}
	w.Step()
	return api.Answer{Err: api.ErrClockCall}
}

// by does a named call by a worker of a run; its answer tells how many lines it did by itself.
func (r real) by(t *testing.T, c api.Call) api.Answer {
	t.Helper()
	run, err := crew.Run(work([]api.Call{c}), does(func(w *crew.Worker, c api.Call) api.Answer {
		w.Step() // so that a call without a line doesn't look like one that has one
		return r.Do(w, c)
	}))
	if err != api.OK || run.Cut || len(run.Answers[0]) != 1 {
		t.Fatalf("%+v: %+v, %v", c, run, err)
	}
	a := run.Answers[0][0]
	a.Own--
	return a
}

// wants does a call and asks for its answer, its lines and what is there behind it.
func (r real) wants(t *testing.T, promise string, c api.Call, want api.Answer, lines int, left state) {
	t.Helper()
	if a := r.by(t, c); !sameAnswer(a, want) || a.Own != lines {
		t.Fatalf("%s: %+v: %+v, want %+v in %d lines", promise, c, a, want, lines)
	}
	r.wantState(t, promise, left)
}

func (r real) wantState(t *testing.T, promise string, want state) {
	t.Helper()
	if got := r.state(); !got.same(want) {
		t.Fatalf("%s: %+v, want %+v", promise, got, want)
	}
}

// takes takes so many leases.
func (r real) takes(t *testing.T, times int) real {
	t.Helper()
	for range times {
		if _, err := r.c.Take(nil); err != api.OK {
			t.Fatalf("P13.3: Take: %v", err)
		}
	}
	return r
}

func sameAnswer(a, b api.Answer) bool {
	a.Begin, a.End, a.Own = b.Begin, b.End, b.Own
	return reflect.DeepEqual(plainRun(api.Run{Answers: [][]api.Answer{{a}}}), plainRun(api.Run{Answers: [][]api.Answer{{b}}}))
}

func good() api.Answer                 { return api.Answer{Ok: true} }
func bad() api.Answer                  { return api.Answer{} }
func counted(n int) api.Answer         { return api.Answer{Ok: true, N: n} }
func took(lease, stamp int) api.Answer { return api.Answer{Ok: true, N: lease, M: stamp} }
func failed(err api.Errno) api.Answer  { return api.Answer{Err: err} }

func wantPlay(t *testing.T, promise string, leases int, c api.Case, want api.Run, left state) {
	t.Helper()
	run, rows, err := clock.Play(leases, c)
	if err != api.OK || !sameRun(run, want) || !sameLists(rows, left.rows()) {
		t.Fatalf("%s: Play(%d, %+v)\ngot  %+v %v %v\nwant %+v %v", promise, leases, c, run, rows, err, want, left.rows())
	}
}

// wantModel holds a Play against the model.
func wantModel(t *testing.T, promise string, leases int, c api.Case) (api.Run, state) {
	t.Helper()
	m := newModel(leases)
	run := m.run(c, true)
	wantPlay(t, promise, leases, c, run, m.told())
	return run, m.told()
}

var (
	noSizes    = []int{lowest, lowest + 1, -1 << 32, -64, -2, -1, 0, most + 1, most + 2, 128, 1 << 32, 1<<32 + 1, highest - 1, highest}
	noRegs     = []int{lowest, lowest + 1, -1 << 32, -5, -4, -1, 4, 5, 8, 1 << 32, 1<<32 + 1, highest - 1, highest}
	farNumbers = []int{lowest, lowest + 1, -1 << 32, -65, -2, -1, 0, 1, 2, 63, 64, 65, 1 << 32, highest - 1, highest}
	fewHalts   = []int{lowest, -1, 0, 0, 0, 1, 2, 3, 4, 5, 8, 12, 20, 33, highest}
	fewUntils  = []int{0, 0, 0, 0, 1, 2, 3, 7, 15, 40, 19999, 20000}
	noKinds    = []int{lowest, lowest + 1, -6, -1, 0, 7, 8, 105, 1<<32 + 1, highest - 1, highest}
)

// noLeases: what is no lease of a clock of n.
func noLeases(n int) []int {
	return []int{lowest, lowest + 1, -1 << 32, -1<<32 + 1, -n, -2, -1, n, n + 1, 2 * n, most + n, 1 << 32, 1<<32 + 1, highest - 1, highest}
}

// mixed: a Play's arguments.
type mixed struct {
	leases int
	c      api.Case
}

// manners: which calls come.
type manners struct {
	wild  bool // calls that can't be
	frees bool // leases of others are released
}

func (m *mixer) call(leases int, how manners) api.Call {
	kind := m.one([]int{1, 1, 1, 1, 2, 2, 2, 3, 3, 4, 5})
	c := api.Call{Kind: kind, A: m.one([]int{0, 0, 0, 1, 1, 2, 3}), B: m.below(3), C: m.below(3)}
	if how.frees && m.below(6) == 0 {
		c = free(m.below(leases))
	}
	if how.wild && m.below(10) == 0 {
		switch m.below(3) {
		case 0:
			c.Kind = m.one(noKinds)
		case 1:
			c.A = m.one(noRegs)
		case 2:
			c = free(m.one(noLeases(leases)))
		}
	}
	return c
}

func (m *mixer) mixed(how manners) mixed {
	x := mixed{leases: m.one([]int{1, 1, 2, 2, 3, 4, 5, 8})}
	for range 1 + m.below(4) {
		var calls []api.Call
		for range m.below(16) {
			calls = append(calls, m.call(x.leases, how))
		}
		x.c.Work = append(x.c.Work, calls)
	}
	for range m.below(90) {
		x.c.Turns = append(x.c.Turns, m.one(farNumbers)+m.below(8))
	}
	// A worker that goes on for some time makes that others meet what it left.
	for range m.below(8) {
		k, times := m.below(8), m.below(12)
		x.c.Turns = append(x.c.Turns, slices.Repeat([]int{k}, times)...)
	}
	if m.below(2) == 0 {
		for range m.below(7) {
			x.c.Halt = append(x.c.Halt, m.one(fewHalts))
		}
		x.c.Until = m.one(fewUntils)
	}
	return x
}

// mixedPlays calls f with so many Plays' arguments.
func mixedPlays(count int, how manners, f func(x mixed)) {
	m := mixer(count)
	for range count {
		f(m.mixed(how))
	}
}
