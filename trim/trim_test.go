package trim_test

import (
	"fmt"
	"slices"
	"testing"

	"skein/api"
	"skein/chain"
	"skein/clock"
	"skein/crew"
	"skein/epoch"
	"skein/pool"
	"skein/trim"
)

// The handles of slots that were taken once.
var one, two, three, four, five, six, eight = word(1, 1), word(2, 1), word(3, 1), word(4, 1), word(5, 1), word(6, 1), word(8, 1)

func TestExample(t *testing.T) {
	const name = "example"
	r := newReal(t, sizes{9, 2, 2})
	r.wantLines(t, name, begin(10), good(), lines(takes(1, 10, 0), leads(2, one)))
	r.wantLines(t, name, write(20), good(), lines(comes(), takes(3, 20, 0), still(3), follows(4, three, 1, one), goes))
	if s := r.state(); len(s.free) != 5 || !slices.Equal(s.versions, []int{four, two}) || s.value(four) != 20 || s.value(two) != 10 {
		t.Errorf("%s: four slots are in use: %+v", name, s)
	}
	r.wantLines(t, name, snap(0), newest(0, 1), snaps(1))
	r.wantLines(t, name, write(30), good(), lines(comes(), takes(5, 30, 0), still(3), follows(6, five, 2, three), goes))
	r.wantLines(t, name, shorten(), number(2), trims(still(4), cuts(4), waitFor(one, two), still(1)))
	r.wantLines(t, name, peek(0), number(20), still(6))
	r.wantLines(t, name, free(0), good(), lines(holds(0, 0)))
	r.wantLines(t, name, shorten(), number(2), trims(still(2), cuts(6), waitFor(three, four), still(1)))
	r.wantLines(t, name, advance(), good(), lines(still(3), func(s *state) { s.epoch++ }))
	r.wantLines(t, name, advance(), good(), lines(still(3), func(s *state) { s.epoch++ }))
	r.wantLines(t, name, collect(), number(4), lines(still(1), collects(1, 2, 3, 4)))
	r.wantLines(t, name, read(), newest(30, 2), lines(comes(), still(4), goes))
	if s := r.state(); len(s.free) != 7 || s.faults != 0 || !slices.Equal(s.versions, []int{six}) {
		t.Errorf("%s: seven slots are free: %+v", name, s)
	}
}

// Of a chain without a version, and of one with the newest one alone, nothing is cut off, whatever Least is.
func TestNothingToCut(t *testing.T) {
	for _, leases := range []int{1, 2, 7, mostLeases} {
		r := newReal(t, sizes{9, 1, leases})
		r.wantLines(t, "P17.1: no version", shorten(), number(0), lines(comes(), still(1+leases+1), goes))
		r.do(t, lease())
		r.wantLines(t, "P17.1: no version, a lease", shorten(), number(0), lines(comes(), still(1+leases+1), goes))
		r.do(t, first(7))
		r.wantLines(t, "P17.1: one version", shorten(), number(0), lines(comes(), still(1+leases+2+1), goes))
		r.do(t, push(one, 8, 5))
		r.wantLines(t, "P17.1: what is shown is the last one", shorten(), number(0), lines(comes(), still(1+leases+4+1), goes))
		r.do(t, release(0), shorten())
		for range 2 {
			r.wantLines(t, "P17.1: it is cut already", shorten(), number(0), lines(comes(), still(1+leases+2+1), goes))
		}
	}
}

// A Least of 0, while a lease is being taken: no stamp is so low.
func TestLeastOfNothing(t *testing.T) {
	r := newReal(t, plain).halted(t, lease(), 1)
	r.wantLines(t, "P17.1: Least 0, no version", shorten(), number(0), trims(still(1)))
	r.do(t, first(7))
	r.wantLines(t, "P17.1: Least 0, one version", shorten(), number(0), trims(still(3)))
	r.do(t, push(one, 8, 5), push(two, 9, 6))
	r.wantLines(t, "P17.1: Least 0, three versions", shorten(), number(0), trims(still(2+5)))
	r.do(t, release(0))
	r.wantLines(t, "P17.1: it is let go", shorten(), number(4), trims(still(2), cuts(3), waitFor(6, two), cuts(2), waitFor(5, one), still(1)))
}

// A Least that is below all stamps, and not 0: a first version that was pushed has the stamp that is now.
func TestLeastBelowAllStamps(t *testing.T) {
	r := after(t, lease(), lease(), push(0, 7, 5), push(one, 8, 6), release(1))
	r.wantLines(t, "P17.1: Least is below all", shorten(), number(0), trims(still(2+3)))
	r.do(t, release(0))
	r.wantLines(t, "P17.1: Least is the stamp of all", shorten(), number(2), trims(still(2), cuts(2), waitFor(6, one), still(1)))
	if got := r.state().sets[0]; !slices.Equal(got, []int{5}) {
		t.Errorf("P17.1: a set behind which nothing is stays: %v", got)
	}
}

// tall: a chain of so many versions, the stamp of each being one more than that of the one ahead of it, a lease held for each stamp; the set of version i (from 0 on) is of i%4 numbers. Its handles, and its sets.
func tall(t *testing.T, versions int) (real, []int, [][]int) {
	t.Helper()
	r := newReal(t, sizes{versions + 3, 2, versions}).do(t, first(0), lease())
	handles, sets := []int{one}, [][]int{nil}
	for i := 1; i < versions; i++ {
		set := []int{100 + i, -i, word(i, 1)}[:i%4]
		handles = append(handles, r.by(t, push(handles[i-1], i, set...)).N)
		sets = append(sets, set)
		r.do(t, lease())
	}
	return r, handles, sets
}

// waitingFor: what a Trim that keeps version to, and finds version from the last one, lets wait.
func waitingFor(handles []int, sets [][]int, from, to int) []int {
	var list []int
	for i := to; i > from; i-- {
		list = append(append(list, sets[i]...), handles[i-1])
	}
	return list
}

// cutLines: the lines of a Trim behind At's: it keeps version to, and finds version from the last one.
func cutLines(handles []int, sets [][]int, from, to int) []change {
	var list []change
	for i := to; i > from; i-- {
		list = append(list, lines(cuts(handles[i]>>40), waitFor(append(slices.Clone(sets[i]), handles[i-1])...))...)
	}
	return append(list, still(1)...)
}

// Least among the stamps: what is older than the newest version whose stamp isn't above it is cut off, and no more, one version behind the other: the set first, in its order.
func TestLeastAmongStamps(t *testing.T) {
	const versions = 9
	for from := range versions {
		for to := from; to < versions; to++ {
			r, handles, sets := tall(t, versions)
			for i := range from {
				r.do(t, release(i))
			}
			r.do(t, shorten()) // version from is the last one now
			for i := to - 1; i >= from; i-- {
				r.do(t, release(i))
			}
			above := versions - 1 - to
			want := waitingFor(handles, sets, from, to)
			r.wantLines(t, fmt.Sprintf("P17.1: from %d to %d", from, to), shorten(), number(len(want)),
				lines(comes(), still(1+versions+2+2*above), cutLines(handles, sets, from, to), goes))
			if got := r.e.Waiting(0); !slices.Equal(got, append(waitingFor(handles, sets, 0, from), want...)) {
				t.Errorf("P17.1: from %d to %d: %v waits, want %v", from, to, got, want)
			}
			if got := r.x.Versions(); len(got) != above+1 || got[above] != handles[to] {
				t.Errorf("P17.1: from %d to %d: %v is left", from, to, got)
			}
		}
	}
}

// Least above all stamps, and at the newest one's: all but that one go.
func TestLeastAboveAllStamps(t *testing.T) {
	for more := range 3 {
		r := after(t, begin(1), write(2), write(3))
		for range more {
			r.do(t, lease(), release(0))
		}
		r.wantLines(t, "P17.1: Least is above all", shorten(), number(4), trims(still(2), cuts(6), waitFor(three, four), cuts(4), waitFor(one, two), still(1)))
		r.wants(t, "P17.1: once more", shorten(), number(0), 2+3+2+1+1)
	}
	// Several versions of one stamp: the newest one of these is kept.
	r := after(t, begin(1), write(2), write(3), snap(0), write(4))
	r.wantLines(t, "P17.1: three of one stamp", shorten(), number(4), trims(still(4), cuts(6), waitFor(three, four), cuts(4), waitFor(one, two), still(1)))
	if got := r.x.Versions(); !slices.Equal(got, []int{eight, six}) {
		t.Errorf("P17.1: three of one stamp: %v", got)
	}
}

// The newest version isn't settled yet: At does it, with the stamp that is now then.
func TestNewestThatIsntSettled(t *testing.T) {
	base := []api.Call{first(1), push(one, 2, 5)}
	// Of the same stamp as Least: it is kept, and the others go.
	r := after(t, base...).halted(t, push(two, 3, 6), 4)
	r.wantLines(t, "P17.1: it is settled", shorten(), number(4), trims(still(3), stamped(3, 1), cuts(3), waitFor(6, two), cuts(2), waitFor(5, one), still(1)))
	// Above Least: a lease is held.
	r = after(t, base...).do(t, lease()).halted(t, push(two, 3, 6), 4)
	r.wantLines(t, "P17.1: it is settled above Least", shorten(), number(2), trims(still(3), stamped(3, 2), still(2), cuts(2), waitFor(5, one), still(1)))
	// A first version that is pushed, of no stamp yet.
	r = newReal(t, plain).halted(t, push(0, 3, 6), 4)
	r.wantLines(t, "P17.1: it is settled, the one version", shorten(), number(0), trims(still(3), stamped(1, 1), still(1)))
	// now moves on between Least and the settling: its stamp is above Least then.
	r = after(t, base...).halted(t, push(two, 3, 6), 4)
	a, _ := r.broken(t, shorten(), 2+3+2, lease(), release(0))
	if !sameAnswer(a, number(2)) || a.Own != 2+3+6+1+2+1+1 || r.state().slot(three).Mark != 2 {
		t.Errorf("P17.1: settled above Least: %+v, %+v", a, r.state())
	}
}

// Sets of none, of one, of many; the numbers in them may be any, and come twice.
func TestSets(t *testing.T) {
	long := append(slices.Clone(farNumbers), upTo(500)...)
	for _, set := range [][]int{nil, {5}, {0}, {lowest}, {highest, lowest, 0, 0}, {one, one, two}, {5, 4, 3, 2, 1}, farNumbers, long} {
		r := after(t, first(1), push(one, 2, set...), push(two, 3, set...))
		want := slices.Concat(set, []int{two}, set, []int{one})
		r.wants(t, fmt.Sprintf("P17.1: a set of %d", len(set)), shorten(), number(len(want)), 2+3+2+1+len(set)+1+1+len(set)+1+1+1)
		if got := r.e.Waiting(0); !slices.Equal(got, want) || r.p.Faults() != 0 {
			t.Errorf("P17.1: a set of %d: %v waits, want %v", len(set), got, want)
		}
	}
	r := after(t, first(1), push(one, 2, 9, 8, 9), push(two, 3))
	r.wantLines(t, "P17.1: in its order", shorten(), number(5), trims(still(2), cuts(3), waitFor(two), cuts(2), waitFor(9, 8, 9, one), still(1)))
}

// What waits waits behind what waited already, for who trims, since the epoch that is now at each line.
func TestWhoRetires(t *testing.T) {
	r := after(t, first(1), push(one, 2, 5), retire(77))
	a := lonely(t, work(nil, []api.Call{shorten()}), r)
	if s := r.state(); !sameAnswer(a, number(2)) || !sameLists(s.waiting, [][]int{{77}, {5, one}, nil}) || !slices.Equal(s.at, []int{0, 0, 0}) {
		t.Errorf("P17.1: worker 1 retires: %+v, %+v", a, s)
	}
	r.do(t, push(two, 3, 6), shorten())
	if s := r.state(); !sameLists(s.waiting, [][]int{{77, 6, two}, {5, one}, nil}) {
		t.Errorf("P17.1: worker 0 retires: %+v", s)
	}
	// The second handle is retired in a later epoch than the first one: so Collect gives back the one, and not the other.
	r = after(t, begin(1), write(2))
	_, others := r.broken(t, shorten(), 2+3+2+1+1, advance())
	r.do(t, advance())
	if a := r.by(t, collect()); !others[0].Ok || !sameAnswer(a, number(1)) || !slices.Equal(r.e.Waiting(0), []int{two}) || r.p.Slots()[0].Gen != 2 {
		t.Errorf("P17.1: in two epochs: %+v, %+v", a, r.state())
	}
	if a := r.do(t, advance()).by(t, collect()); !sameAnswer(a, number(1)) || len(r.p.Free()) != 28 {
		t.Errorf("P17.1: in two epochs: %+v, %+v", a, r.state())
	}
}

// Who is within already stays so: Enter and Leave are lines without an access then.
func TestWithinAlready(t *testing.T) {
	r := after(t, enter(), advance(), first(1), push(one, 2, 5))
	r.wantLines(t, "P17.1: within", shorten(), number(2), lines(still(1), still(3), still(2), cuts(2), waitFor(5, one), still(1), still(1)))
	if got := r.e.At(); !slices.Equal(got, []int{1, 0, 0}) {
		t.Errorf("P17.1: within: %v", got)
	}
	r.wants(t, "P17.1: one deep", leave(), good(), 1)
	r.wants(t, "P17.1: and no deeper", leave(), failed(api.ErrEpochOut), 1)
}

// Alone: worker 0's, at once.
func TestTrimAlone(t *testing.T) {
	r := after(t, begin(1), write(2), write(3))
	if n, err := r.trim(nil); n != 4 || err != api.OK || !slices.Equal(r.e.Waiting(0), []int{three, four, one, two}) {
		t.Errorf("P17.1: alone: %d, %v", n, err)
	}
	if n, err := r.trim(nil); n != 0 || err != api.OK || !slices.Equal(r.e.At(), []int{0, 0, 0}) {
		t.Errorf("P17.1: alone: %d, %v", n, err)
	}
}

// Enter's error: a worker that the epoch doesn't know does one line, and nothing else.
func TestEntersError(t *testing.T) {
	for known := 1; known < 8; known++ {
		r := newReal(t, sizes{9, known, 2}).do(t, begin(1), write(2), lease(), write(3))
		was := r.state()
		for k := known; k < 8; k++ {
			a := lonely(t, api.Case{Work: append(make([][]api.Call, k), []api.Call{shorten()})}, r)
			if !sameAnswer(a, failed(noWorker)) || a.Own != 1 || !r.state().same(was) {
				t.Errorf("P17.1: worker %d of %d: %+v, %+v", k, known, a, r.state())
			}
		}
		a := lonely(t, api.Case{Work: append(make([][]api.Call, known-1), []api.Call{shorten()})}, r)
		if !sameAnswer(a, number(2)) {
			t.Errorf("P17.1: worker %d of %d: %+v", known-1, known, a)
		}
	}
}

// At's errors, but that there is no version: behind them the worker leaves, and nothing waits.
func TestAtsErrors(t *testing.T) {
	base := []api.Call{first(1), lease(), push(one, 2, 5), push(two, 3, 6)}
	r := after(t, base...).do(t, give(three))
	r.wantLines(t, "P17.1: the newest one was given back", shorten(), failed(gone), trims(still(1), faulty))
	r = after(t, base...).do(t, give(two))
	r.wantLines(t, "P17.1: an older one was given back", shorten(), failed(gone), trims(still(3), faulty))
	r = after(t, base...).do(t, link(three, 5))
	r.wantLines(t, "P17.1: a link that is no handle", shorten(), failed(noHandle), trims(still(4)))
	r = after(t, base...).do(t, link(three, 0))
	r.wantLines(t, "P17.1: no link", shorten(), number(0), trims(still(3)))
	// Given back while it goes by it.
	r = after(t, base...)
	a, _ := r.broken(t, shorten(), 2+3+2, give(three))
	if !sameAnswer(a, failed(gone)) || a.Own != 2+3+3+1 || r.e.At()[0] != 0 || len(r.e.Waiting(0)) != 0 {
		t.Errorf("P17.1: given back ahead of its link: %+v, %+v", a, r.state())
	}
}

// Cut's errors, of the first version and of a later one: what was retired ahead of it waits, and is told nobody.
func TestCutsErrors(t *testing.T) {
	base := []api.Call{first(1), push(one, 2, 5), push(two, 3, 6)}
	r := after(t, base...)
	a, _ := r.broken(t, shorten(), 2+3+2, give(three))
	if !sameAnswer(a, failed(gone)) || a.Own != 2+3+2+1+1 || r.e.At()[0] != 0 || len(r.e.Waiting(0)) != 0 || r.p.Faults() != 1 {
		t.Errorf("P17.1: the version was given back: %+v, %+v", a, r.state())
	}
	r = after(t, base...).do(t, give(two))
	r.wantLines(t, "P17.1: the one ahead was given back", shorten(), failed(gone), trims(still(2), cuts(3), waitFor(6, two), faulty))
	r = after(t, base...).do(t, give(one))
	r.wantLines(t, "P17.1: the first one was given back", shorten(), failed(gone), trims(still(2), cuts(3), waitFor(6, two), cuts(2), waitFor(5, one), faulty))
	for _, h := range []int{-1, 5, word(31, 1), word(2, 2), lowest, highest} {
		r = after(t, base...).do(t, link(three, h))
		r.wantLines(t, "P17.1: a link that is no handle", shorten(), failed(noHandle), trims(still(2), cuts(3), waitFor(6, h), still(1)))
	}
}

// Retire meets no error where Enter met none: both ask for the worker's number alone. Who is buried meanwhile retires still; that its Leave fails ends nothing.
func TestBuriedMeanwhile(t *testing.T) {
	for at := 2; at < 2+3+2+5; at++ {
		r := after(t, first(1), push(one, 2, 5, 6))
		a, others := r.broken(t, shorten(), at, bury(0))
		all := slices.Concat(r.e.Waiting(1), r.e.Waiting(0))
		if !sameAnswer(a, number(3)) || a.Own != 2+3+2+1+3+1+1 || !others[0].Ok || !slices.Equal(all, []int{5, 6, one}) {
			t.Errorf("P17.1: buried behind %d lines: %+v, %+v", at, a, r.state())
		}
	}
}

// Links that somebody made a ring of: each is cut once, and it ends.
func TestRings(t *testing.T) {
	r := after(t, first(1), push(one, 2, 5), push(two, 3, 6)).do(t, link(one, three))
	r.wantLines(t, "rule 1: a ring", shorten(), number(5), trims(still(2),
		func(s *state) { cuts(3)(s); s.versions = []int{three} }, waitFor(6, two), cuts(2), waitFor(5, one), cuts(1), waitFor(three), still(1)))
	r = after(t, first(1)).do(t, link(one, one))
	r.wants(t, "rule 1: a ring of one", shorten(), number(1), 2+3+2+2+1+1)
}

// Over a pool, a clock and an epoch that others use, too: just the chain's own is touched.
func TestOneChainOfTwo(t *testing.T) {
	r := after(t, begin(1), write(2))
	other := chain.New(r.p, r.k)
	h, _ := other.First(nil, api.Node{A: 7})
	g, _, _ := other.Push(nil, h, api.Node{A: 8}, []int{9})
	if n, err := r.trim(nil); n != 2 || err != api.OK || !slices.Equal(other.Versions(), []int{g, h}) || !slices.Equal(other.Set(g), []int{9}) {
		t.Errorf("rule 6: %d, %v, %v", n, err, other.Versions())
	}
	if n, err := trim.Trim(nil, other, r.e, r.k); n != 2 || err != api.OK || !slices.Equal(r.e.Waiting(0), []int{one, two, 9, h}) {
		t.Errorf("rule 6: %d, %v, %v", n, err, r.e.Waiting(0))
	}
}

// The greatest chain, of the greatest pool, with all leases.
func TestGreatestChain(t *testing.T) {
	p, _ := pool.New(mostSlots)
	k, _ := clock.New(mostLeases)
	e := epoch.New(p, 8)
	x := chain.New(p, k)
	h, _ := x.First(nil, api.Node{})
	for i := 1; i < mostSlots; i++ {
		g, ok, err := x.Push(nil, h, api.Node{}, []int{-i})
		if !ok || err != api.OK {
			t.Fatalf("chain.Push: %v, %v", ok, err)
		}
		h = g
	}
	a := lonely(t, work([]api.Call{{}}), does(func(w *crew.Worker, _ api.Call) api.Answer { return went(trim.Trim(w, x, e, k)) }))
	if !sameAnswer(a, number(2*(mostSlots-1))) || a.Own != 2+1+mostLeases+2+3*(mostSlots-1)+1+1 || len(x.Versions()) != 1 {
		t.Errorf("P17.1: the greatest chain: %+v", a)
	}
	e.Advance(nil)
	e.Advance(nil)
	if n, err := e.Collect(nil); n != 2*(mostSlots-1) || err != api.OK || len(p.Free()) != mostSlots-1 {
		t.Errorf("P17.5: the greatest chain: %d, %v", n, err)
	}
}

// Two Trims, the one broken off by the other one behind each of its lines: all is retired, and once.
func TestTwoTrims(t *testing.T) {
	calls := []api.Call{begin(1), write(2), write(3), write(4)}
	whole := after(t, calls...).by(t, shorten())
	want := []int{one, two, three, four, five, six}
	for at := range whole.Own + 1 {
		for lines := range whole.Own + 1 {
			r := after(t, calls...)
			c := work([]api.Call{shorten()}, []api.Call{shorten()})
			c.Turns = slices.Concat(make([]int, at), slices.Repeat([]int{1}, lines), make([]int, 40))
			run, err := crew.Run(c, r)
			if err != api.OK || run.Cut || len(run.Answers[0])+len(run.Answers[1]) != 2 {
				t.Fatalf("P17.4: %+v, %v", run, err)
			}
			a, b := run.Answers[0][0], run.Answers[1][0]
			all := slices.Sorted(slices.Values(slices.Concat(r.e.Waiting(0), r.e.Waiting(1))))
			if !a.Ok || !b.Ok || a.N != len(r.e.Waiting(0)) || b.N != len(r.e.Waiting(1)) || !slices.Equal(all, want) || r.p.Faults() != 0 {
				t.Errorf("P17.4: broken off behind %d lines, for %d: %+v, %+v, %v", at, lines, a, b, all)
			}
		}
	}
}

// A Trim that others break off behind each of its lines: by a Write, by a snapshot, by one that is let go.
func TestTrimBrokenOff(t *testing.T) {
	base := []api.Call{begin(1), write(2), snap(0), write(3)}
	own := after(t, base...).by(t, shorten()).Own
	for _, others := range [][]api.Call{
		{write(4)}, {write(4), write(5)}, {snap(0)}, {snap(0), write(4), peek(0)}, {release(0)}, {release(0), write(4)}, {release(0), snap(0), write(4), peek(0), shorten()},
		{shorten(), advance(), collect()}, {release(0), shorten(), advance(), advance(), collect()}, {read(), advance(), read()},
	} {
		for at := range own + 1 {
			x := mixed{sizes{30, 2, 2}, work(append(slices.Clone(base), shorten(), read()), others)}
			steps := 0
			for _, a := range wantFilm(t, "P17.1: ahead", mixed{x.sizes, work(base)}).run.Answers[0] {
				steps += a.Own
			}
			x.c.Turns = append(make([]int, steps+at), slices.Repeat([]int{1}, 300)...)
			check(t, x)
		}
	}
}
