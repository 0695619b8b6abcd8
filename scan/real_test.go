package scan_test

import (
	"iter"
	"reflect"
	"slices"
	"testing"

	"skein/api"
	"skein/crew"
	"skein/scan"
	"skein/store"
)

// real: a store, and what does its calls. Who has come is kept, so that others may ask for its registers.
type real struct {
	*store.Store
	calls *store.Calls
	came  *[8]*crew.Worker
	plays bool // it knows Play's calls alone
}

func newReal(t *testing.T, s api.Setup) real {
	t.Helper()
	m, err := store.New(s)
	if err != api.OK {
		t.Fatalf("New(%+v): %v", s, err)
	}
	return real{Store: m, calls: store.NewCalls(m), came: new([8]*crew.Worker)}
}

// far: a key of the second one of two parts.
const far = 4000000000

// plain: two parts, of which each has keys.
var plain = api.Setup{Parts: 2, Workers: 3, Slots: 60, Leases: 2, Source: pairs(1, 10, far, 20)}

// after makes one of the plain setup, behind some calls.
func after(t *testing.T, calls ...api.Call) real {
	t.Helper()
	return newReal(t, plain).do(t, calls...)
}

func (r real) state() state {
	s := state{
		states: r.Load().States(), slots: r.Pool().Slots(), free: r.Pool().Free(), faults: r.Pool().Faults(), stamp: r.Clock().Now(nil), leases: r.Clock().Leases(),
		names: r.Names(nil), epoch: r.Epoch().Now(), at: r.Epoch().At(),
	}
	for i := range r.Parts() {
		x := r.Chain(i)
		list := x.Versions()
		var sets [][]int
		for _, h := range list {
			sets = append(sets, x.Set(h))
		}
		s.versions, s.sets = append(s.versions, list), append(s.sets, sets)
	}
	for k := range s.at {
		s.waiting = append(s.waiting, r.Epoch().Waiting(k))
	}
	for k, w := range r.came {
		for a := range 4 {
			if w != nil || k == 0 {
				s.registers[k][a], _ = r.calls.Register(w, a)
			}
		}
	}
	return s
}

func (r real) Do(w *crew.Worker, c api.Call) api.Answer {
	r.came[w.Number()] = w
	if r.plays {
		return r.play(w, c)
	}
	x := api.Snap{Lease: c.A, Stamp: c.B}
	switch c.Kind {
	case kindFreeBy:
		return went(0, r.Free(w, x))
	case kindTake:
		return taken(r.Snap(w))
	case kindRangeBy, kindCountBy, kindPageBy, kindDiffBy:
		return r.scanBy(w, x, c)
	}
	return r.below(w, c)
}

// play does a call of Play's by hand, so that others may look at the store meanwhile.
func (r real) play(w *crew.Worker, c api.Call) api.Answer {
	if c.Kind >= 1 && c.Kind <= 15 {
		return r.calls.Do(w, c)
	}
	if c.Kind < 16 || c.Kind > 19 {
		w.Step()
		return failed(api.ErrScanCall)
	}
	x, err := r.calls.Register(w, c.A)
	var y api.Snap
	if err == api.OK && c.Kind == 19 {
		y, err = r.calls.Register(w, c.B)
	}
	if err != api.OK {
		w.Step()
		return failed(err)
	}
	switch c.Kind {
	case 16:
		return tellsPairs(gathered(scan.Range(r.Store, w, x, c.B, c.C), 0))
	case 17:
		return went(scan.Count(r.Store, w, x, c.B, c.C))
	case 18:
		return pageTold(scan.Page(r.Store, w, x, c.B, c.C))
	}
	return tellsChanges(gathered(scan.Diff(r.Store, w, x, y), 0))
}

// scanBy does a scan by a snapshot that is handed in.
func (r real) scanBy(w *crew.Worker, x api.Snap, c api.Call) api.Answer {
	a, b := c.Pairs[0].Key, c.Pairs[0].Value
	switch c.Kind {
	case kindRangeBy:
		return tellsPairs(gathered(scan.Range(r.Store, w, x, a, b), c.C))
	case kindCountBy:
		return went(scan.Count(r.Store, w, x, a, b))
	case kindPageBy:
		return pageTold(scan.Page(r.Store, w, x, a, b))
	}
	return tellsChanges(gathered(scan.Diff(r.Store, w, x, at(a, b)), c.C))
}

// gathered tells what an iterator gives, up to so many (0: all). An error must be the last thing, and nothing else beside it.
func gathered[T comparable](given iter.Seq2[T, api.Errno], behind int) ([]T, api.Errno) {
	var list []T
	var none T
	err := api.OK
	for x, e := range given {
		if err != api.OK || e != api.OK && x != none {
			panic("something beside an error, or behind it")
		}
		if err = e; e == api.OK {
			list = append(list, x)
		}
		if behind > 0 && len(list) == behind {
			break
		}
	}
	return list, err
}

func tellsPairs(list []api.Pair, err api.Errno) api.Answer {
	return api.Answer{Ok: err == api.OK, Pairs: list, Err: err}
}

func tellsChanges(list []api.Change, err api.Errno) api.Answer {
	return api.Answer{Ok: err == api.OK, Ints: numbersOf(list), Err: err}
}

// numbersOf: of each change five numbers.
func numbersOf(list []api.Change) []int {
	var numbers []int
	for _, x := range list {
		numbers = append(numbers, x.Key, bit(x.Had), x.Old, bit(x.Has), x.New)
	}
	return numbers
}

// below does a call of the layers below.
func (r real) below(w *crew.Worker, c api.Call) api.Answer {
	p, e := r.Pool(), r.Epoch()
	switch c.Kind {
	case kindSlot:
		return went(p.Take(w, api.Node{A: c.A, B: c.B, C: c.C, D: c.Pairs[0].Key}, 0))
	case kindGive:
		return went(0, p.Give(w, c.A))
	case kindFirst:
		return went(r.Chain(c.A).First(w, api.Node{A: c.B, B: c.C}))
	case kindPush:
		h, _, err := r.Chain(c.A).Top(w)
		if err != api.OK {
			return went(0, err)
		}
		_, ok, err := r.Chain(c.A).Push(w, h, api.Node{A: c.B, B: c.C}, nil)
		return api.Answer{Ok: ok, Err: err}
	case kindRetire:
		return went(0, e.Retire(w, c.A))
	case kindReady:
		return went(0, r.Load().Ready(w, c.A))
	case kindLink:
		return went(p.SwapLink(w, c.A, c.B))
	case kindMark:
		ok, err := p.CasMark(w, c.A, c.B, c.C)
		return api.Answer{Ok: ok, Err: err}
	}
	return r.play(w, c)
}

// by does a call by worker 0 of a run; its answer tells how many lines it did by itself.
func (r real) by(t *testing.T, c api.Call) api.Answer {
	t.Helper()
	return lonely(t, work([]api.Call{c}), r)
}

// lonely does the last call of a case, whose other workers have none; Own tells how many lines it did by itself.
func lonely(t *testing.T, c api.Case, d crew.Does) api.Answer {
	t.Helper()
	run, err := crew.Run(c, does(func(w *crew.Worker, c api.Call) api.Answer {
		w.Step() // so that a call without a line doesn't look like one that has one
		return d.Do(w, c)
	}))
	last := len(c.Work) - 1
	if err != api.OK || run.Cut || len(run.Answers[last]) != 1 {
		t.Fatalf("%+v: %+v, %v", c, run, err)
	}
	a := run.Answers[last][0]
	a.Own--
	return a
}

// do does calls, one behind the other, all without an error.
func (r real) do(t *testing.T, calls ...api.Call) real {
	t.Helper()
	for _, c := range calls {
		if a := r.by(t, c); a.Err != api.OK {
			t.Fatalf("%+v: %+v", c, a)
		}
	}
	return r
}

// haltedBy does so many lines of a call of that worker, and no more.
func (r real) haltedBy(t *testing.T, k int, c api.Call, lines int) real {
	t.Helper()
	x := work(append(make([][]api.Call, k), []api.Call{c})...)
	x.Halt = append(make([]int, k), lines)
	run, err := crew.Run(x, r)
	if err != api.OK || run.Steps != lines || len(run.Open) != 1 {
		t.Fatalf("%+v, halted behind %d lines: %+v, %v", c, lines, run, err)
	}
	return r
}

// broken does a call of worker 0, broken off behind so many lines by the others, which are worker 1's.
func (r real) broken(t *testing.T, call api.Call, at int, others ...api.Call) (api.Answer, []api.Answer) {
	t.Helper()
	c := work([]api.Call{call}, others)
	c.Turns = append(make([]int, at), slices.Repeat([]int{1}, 400)...)
	run, err := crew.Run(c, r)
	if err != api.OK || run.Cut || len(run.Answers[0]) != 1 || len(run.Answers[1]) != len(others) {
		t.Fatalf("%+v, broken off behind %d lines: %+v, %v", call, at, run, err)
	}
	return run.Answers[0][0], run.Answers[1]
}

// wants does a call by a worker and asks for its answer and its lines.
func (r real) wants(t *testing.T, promise string, c api.Call, want api.Answer, lines int) {
	t.Helper()
	if a := r.by(t, c); !sameAnswer(a, want) || a.Own != lines {
		t.Fatalf("%s: %+v: %+v, want %+v in %d lines", promise, c, a, want, lines)
	}
}

// wantsStill does the same of a call that changes nothing.
func (r real) wantsStill(t *testing.T, promise string, c api.Call, want api.Answer, lines int) {
	t.Helper()
	was := r.state()
	r.wants(t, promise, c, want, lines)
	if is := r.state(); !is.same(was) {
		t.Fatalf("%s: %+v changes %+v to %+v", promise, c, was, is)
	}
}

func sameAnswer(a, b api.Answer) bool {
	a.Begin, a.End, a.Own = b.Begin, b.End, b.Own
	return reflect.DeepEqual(plainRun(api.Run{Answers: [][]api.Answer{{a}}}), plainRun(api.Run{Answers: [][]api.Answer{{b}}}))
}

// What calls answer. good: Ok; number: Ok, and a number; held: Ok, a lease and a stamp; read: what a key has, by a version's number; wrote: what a write publishes.
func good() api.Answer                 { return api.Answer{Ok: true} }
func number(n int) api.Answer          { return api.Answer{Ok: true, N: n} }
func held(lease, stamp int) api.Answer { return api.Answer{Ok: true, N: lease, M: stamp} }
func read(value, number int) api.Answer {
	return api.Answer{Ok: true, N: value, M: number}
}
func wrote(value, number, had int) api.Answer {
	return api.Answer{Ok: true, N: value, M: number, Ints: []int{had}}
}
func failed(err api.Errno) api.Answer { return api.Answer{Err: err} }
func own(lines int, a api.Answer) api.Answer {
	a.Own = lines
	return a
}

// The errors that calls answer most.
const (
	noScan   = api.ErrScanCall
	noRange  = api.ErrScanRange
	noCall   = api.ErrStoreCall
	noSetup  = api.ErrStoreSetup
	noSnap   = api.ErrStoreSnap
	busy     = api.ErrLoadBusy
	fails    = api.ErrLoadFailed
	noRoom   = api.ErrPoolFull
	noHandle = api.ErrPoolHandle
	gone     = api.ErrPoolGone
	none     = api.ErrChainNone
	noRoot   = api.ErrTrieRoot
)

// takesLong is for a test whose calls go by turns: where the race detector looks on, it would find no more than the others do.
func takesLong(t *testing.T) {
	t.Helper()
	if testing.Short() {
		t.Skip("it takes long")
	}
}

// mixed: a Play's arguments; named: its calls are done by their names, and among them some that Play hasn't.
type mixed struct {
	s     api.Setup
	c     api.Case
	named bool
}

func wantPlay(t *testing.T, promise string, s api.Setup, c api.Case, want api.Run, rows [][]int) {
	t.Helper()
	run, got, err := scan.Play(s, c)
	if err != api.OK || !sameRun(run, want) || !sameLists(got, rows) {
		t.Fatalf("%s: Play(%+v, %+v)\ngot  %+v %v %v\nwant %+v %v", promise, s, c, run, got, err, want, rows)
	}
}

// wantModel holds a Play against the model.
func wantModel(t *testing.T, promise string, x mixed) (api.Run, state) {
	t.Helper()
	m := newModel(x.s)
	m.plays = true
	run, _ := m.run(x.c, nil)
	wantPlay(t, promise, x.s, x.c, run, m.told().rows())
	return run, m.told()
}

// filmed: a run of calls, whose steps they were, what there is behind each step; the first moment is ahead of all.
type filmed struct {
	mixed
	run     api.Run
	picks   []pick
	moments []state
}

// wantFilm holds a run over a new store against the model, step by step.
func wantFilm(t *testing.T, promise string, x mixed) filmed {
	t.Helper()
	m := newModel(x.s)
	m.films, m.plays = true, !x.named
	want, picks := m.run(x.c, nil)
	r := newReal(t, x.s)
	r.plays = !x.named
	run, seen := r.film(t, x.c, picks)
	if !sameRun(run, want) || !r.state().same(m.told()) {
		t.Fatalf("%s: %+v\ngot  %+v %+v\nwant %+v %+v", promise, x, run, r.state(), want, m.told())
	}
	for i, s := range m.film {
		if !seen[i].same(s) {
			t.Fatalf("%s: %+v: behind step %d: %+v, want %+v", promise, x, i+1, seen[i], s)
		}
	}
	return filmed{x, run, picks, append([]state{newState(x.s)}, seen...)}
}

// film does the steps of a case, with a worker more that looks behind each of them; the run is told without it.
func (r real) film(t *testing.T, c api.Case, picks []pick) (api.Run, []state) {
	t.Helper()
	n := len(c.Work)
	if len(picks) == 0 {
		run, _ := crew.Run(c, r)
		return run, nil
	}
	var seen []state
	c.Work = append(slices.Clone(c.Work), []api.Call{{}})
	c.Halt = c.Halt[:min(n, len(c.Halt))]
	c.Until = 2 * len(picks)
	c.Turns = nil
	for _, p := range picks {
		c.Turns = append(c.Turns, slices.Index(p.ready, p.k), -1) // the last one that is ready is who looks
	}
	run, err := crew.Run(c, does(func(w *crew.Worker, call api.Call) api.Answer {
		if w.Number() < n {
			return r.Do(w, call)
		}
		for range picks {
			w.Step()
			seen = append(seen, r.state())
		}
		return api.Answer{}
	}))
	if err != api.OK || run.Steps != 2*len(picks) || len(seen) != len(picks) {
		t.Fatalf("%+v: %+v, %v: %d moments of %d", c, run, err, len(seen), len(picks))
	}
	return withoutLast(run), seen
}

// withoutLast: a run of which each second step was the last worker's, without that one.
func withoutLast(run api.Run) api.Run {
	n := len(run.Answers) - 1
	run.Answers, run.Steps = run.Answers[:n], run.Steps/2
	for _, answers := range run.Answers {
		for i := range answers {
			answers[i].Begin, answers[i].End = (answers[i].Begin+1)/2, (answers[i].End+1)/2
		}
	}
	for i := range run.Open {
		run.Open[i].Begin = (run.Open[i].Begin + 1) / 2
	}
	return run
}

// linesOf: how many lines calls of worker 0 do, one behind the other.
func linesOf(s api.Setup, calls ...api.Call) int {
	m := newModel(s)
	lines := 0
	for _, c := range calls {
		lines += m.alone(c).Own
	}
	return lines
}

// sideBySide: the calls ahead are worker 0's, then so many lines of each worker's other calls come, then some turns.
func sideBySide(s api.Setup, ahead []api.Call, did []int, turns []int, others ...[]api.Call) mixed {
	x := mixed{s: s, c: work(slices.Clone(others)...)}
	x.c.Work[0] = append(slices.Clone(ahead), others[0]...)
	x.c.Turns = make([]int, linesOf(s, ahead...))
	for k, lines := range did {
		x.c.Turns = append(x.c.Turns, slices.Repeat([]int{k}, lines)...)
	}
	x.c.Turns = append(x.c.Turns, turns...)
	return x
}

// steps: a run of one worker, its answers one behind the other.
func steps(answers ...api.Answer) api.Run {
	at := 0
	for i := range answers {
		answers[i].Begin, answers[i].End = at+1, at+answers[i].Own
		at += answers[i].Own
	}
	return api.Run{Answers: [][]api.Answer{answers}, Steps: at}
}
