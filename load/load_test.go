package load_test

import (
	"fmt"
	"runtime"
	"slices"
	"testing"

	"skein/api"
	"skein/chain"
	"skein/clock"
	"skein/crew"
	"skein/load"
	"skein/pool"
)

// The handles of slots that were taken once.
var one, two, three, four, five = word(1, 1), word(2, 1), word(3, 1), word(4, 1), word(5, 1)

// example: the source of the examples, in so many slots.
func example(slots int) api.Setup { return parts(1, slots, 5, 50, 7, 70, 5, 51) }

// loads: the lines of a loading, with those that came to it.
func loads(list ...any) []change {
	return append(lines(still(1), becomes(0, 1)), lines(list...)...)
}

// twoKeys: the lines of Puts of 5 and of 7.
func twoKeys() []change {
	return lines(takes(1, leaf(5, 50)), still(1), takes(2, leaf(7, 70)), takes(3, inner(4, 1, one, two, 2)))
}

// exampleTree: the lines of the example's three Puts.
func exampleTree() []change {
	return lines(twoKeys(), still(2), takes(4, leaf(5, 51)), takes(5, inner(4, 1, four, two, 2)), back(1, 3))
}

const exampleOwn = 34 // a Ready that loads the example

func TestFirstExample(t *testing.T) {
	for _, call := range []api.Call{ready(0), wait(0)} {
		r := newReal(t, example(9))
		r.wants(t, "example 1", ask(0), is(0), 1)
		r.wantLines(t, "example 1", call, good(), loads(exampleTree(), leads(0, 3, five), becomes(0, 2)))
		r.wants(t, "example 1", ask(0), is(2), 1)
		r.wants(t, "example 1", tell(0), first1(5, 51, 7, 70), 6)
		if n := r.state().used(); n != 4 {
			t.Errorf("example 1: %d slots are in use", n)
		}
		r.wantLines(t, "example 1: again", ready(0), good(), still(1))
		r.wantLines(t, "example 1: again", wait(0), good(), still(1))
	}
}

func TestSecondExample(t *testing.T) {
	x := mixed{example(9), work([]api.Call{ready(0)}, []api.Call{ready(0)})}
	x.c.Turns = []int{0, 1, 1, 0, 0}
	f := wantFilm(t, "example 2", x)
	if a, b := f.run.Answers[0][0], f.run.Answers[1][0]; !sameAnswer(a, failed(busy)) || a.Own != 3 || !sameAnswer(b, good()) || b.Own != exampleOwn {
		t.Errorf("example 2: %+v", f.run)
	}
	for i, want := range []int{0, 0, 1, 1, 1} {
		if got := f.moments[i+1].states[0]; got != want {
			t.Errorf("example 2: behind step %d: state %d", i+1, got)
		}
	}
	x.c.Work[0][0] = wait(0)
	f = wantFilm(t, "example 2, Wait", x)
	// From the fifth step on it looks as often as the other one has lines left.
	if a, b := f.run.Answers[0][0], f.run.Answers[1][0]; !sameAnswer(a, good()) || a.Own != 3+exampleOwn-2 || a.End != b.End+1 || b.Own != exampleOwn {
		t.Errorf("example 2, Wait: %+v", f.run)
	}
}

func TestThirdExample(t *testing.T) {
	r := newReal(t, failing(example(9), 1))
	r.wantLines(t, "example 3", ready(0), failed(fails), loads(becomes(0, 0)))
	r.wantLines(t, "example 3", ready(0), good(), loads(exampleTree(), leads(0, 3, five), becomes(0, 2)))
	r = newReal(t, example(2))
	r.wantLines(t, "example 3: two slots", ready(0), failed(full), loads(
		takes(1, leaf(5, 50)), still(1), takes(2, leaf(7, 70)), still(1), back(2, 1), becomes(0, 0),
	))
	r.wants(t, "example 3: two slots", ask(0), is(0), 1)
	if s := r.state(); s.used() != 0 || len(s.free) != 2 {
		t.Errorf("example 3: %+v", s)
	}
}

func TestNew(t *testing.T) {
	for _, n := range []int{0, 1, 2, 63, mostParts, mostParts + 1, 200} {
		r := newReal(t, parts(n, 3, 0, 1, mostKey, 2))
		r.wantState(t, fmt.Sprintf("P15.1: %d parts", n), newState(n, 3))
		for i := range n {
			r.wants(t, "P15.1: it isn't there", ask(i), is(0), 1)
			r.wants(t, "P15.1: it isn't there", tell(i), failed(none), 1)
		}
		r.wantState(t, fmt.Sprintf("P15.1: %d parts, behind it", n), newState(n, 3))
	}
}

// Over a pool that is in use already.
func TestNewOverWhatIsInUse(t *testing.T) {
	p, _ := pool.New(4)
	k, _ := clock.New(1)
	p.Take(nil, api.Node{A: 9}, 0)
	c := chain.New(p, k)
	x := load.New(p, []*chain.Chain{c}, pairs(5, 50), 0)
	if err := x.Ready(nil, 0); err != api.OK || !slices.Equal(c.Versions(), []int{three}) || len(p.Free()) != 1 {
		t.Errorf("P15.1: %v, %v, %v", err, c.Versions(), p.Free())
	}
	if n, err := p.Read(nil, three); err != api.OK || n != (api.Node{A: two, B: 1}) {
		t.Errorf("P15.3: the version: %+v, %v", n, err)
	}
}

func TestPartsThatAreNone(t *testing.T) {
	for _, n := range []int{0, 1, 2, mostParts, mostParts + 1} {
		r := newReal(t, parts(n, 200, 0, 1))
		for range 2 {
			for _, part := range notOf(n) {
				for _, call := range []api.Call{ready(part), wait(part), ask(part)} {
					r.wantLines(t, fmt.Sprintf("P15.2, P15.4: no part of %d", n), call, failed(noPart), still(1))
				}
			}
			for i := range n {
				r.do(t, wait(i))
			}
		}
	}
}

// The first part and the last one are parts.
func TestPartsAtTheEdge(t *testing.T) {
	for _, n := range []int{1, 2, mostParts, mostParts + 1} {
		for _, part := range []int{0, n - 1} {
			for _, call := range []api.Call{ready(part), wait(part)} {
				r := newReal(t, parts(n, 9))
				r.do(t, call)
				r.wants(t, "P15.4", ask(part), is(2), 1)
				want := make([]int, n)
				want[part] = 2
				if got := r.x.States(); !slices.Equal(got, want) {
					t.Errorf("P15.4: %v, want %v", got, want)
				}
			}
		}
	}
}

// wantHolds asks for what all parts hold when they are loaded, and for the slots that are in use.
func (r real) wantHolds(t *testing.T, promise string, s api.Setup) {
	t.Helper()
	used := 0
	for i := range s.Parts {
		if err := r.x.Wait(nil, i); err != api.OK {
			t.Fatalf("%s: part %d: %v", promise, i, err)
		}
		want := holds(pairsOf(s.Source, i, s.Parts))
		used += slotsFor(len(want))
		if a := r.tell(nil, i); !sameAnswer(a, firstOf(want)) {
			t.Fatalf("%s: part %d of %d: %+v, want %v", promise, i, s.Parts, a, want)
		}
	}
	if got := r.state(); got.used() != used || got.faults != 0 || len(got.free) != s.Slots-used {
		t.Fatalf("%s: %d slots in use, want %d: %+v", promise, got.used(), used, got)
	}
}

// Each pair is its key's part's: those at both ends of each part, whatever their order; of too many parts none has any.
func TestPairsOfParts(t *testing.T) {
	for _, n := range []int{1, 2, 3, 5, 7, 31, 63, mostParts, mostParts + 1, 128} {
		s := parts(n, 1000)
		for i := range n {
			s.Source = append(s.Source, pairs(least(i+1, n)-1, i, least(n-1-i, n), -i)...)
		}
		newReal(t, s).wantHolds(t, "P15.1: the ends of parts", s)
		slices.Reverse(s.Source)
		newReal(t, s).wantHolds(t, "P15.1: the ends of parts", s)
	}
	// Written out, of three parts.
	r := newReal(t, parts(3, 40, 1431655766, 1, 1431655765, 2, 2863311530, 3, 2863311531, 4, mostKey, 5, 0, 6))
	for i, want := range []api.Answer{first1(0, 6, 1431655765, 2), first1(1431655766, 1, 2863311530, 3), first1(2863311531, 4, mostKey, 5)} {
		r.do(t, ready(i))
		if a := r.by(t, tell(i)); !sameAnswer(a, want) {
			t.Errorf("P15.1: part %d of 3: %+v", i, a)
		}
	}
}

func TestKeysThatAreNone(t *testing.T) {
	for _, n := range []int{1, 2, 3, mostParts} {
		s := parts(n, 200, noKeys[0], 1, noKeys[1], 2)
		for i, key := range noKeys {
			s.Source = append(s.Source, pairs(key, i, key, -i)...)
			if i == 5 {
				s.Source = append(s.Source, pairs(0, 7, mostKey, 8)...)
			}
		}
		r := newReal(t, s)
		r.wantHolds(t, "P15.1: keys that are none", s)
		if a, b := r.tell(nil, 0), r.tell(nil, n-1); !slices.Contains(a.Pairs, api.Pair{Key: 0, Value: 7}) || !slices.Contains(b.Pairs, api.Pair{Key: mostKey, Value: 8}) {
			t.Errorf("P15.1: %+v, %+v", a, b)
		}
	}
}

// Sources of each kind: what is held, and in how many lines it is loaded.
func TestSources(t *testing.T) {
	for _, x := range []struct {
		source, holds []int
		own           int
	}{
		{nil, nil, 8},
		{[]int{}, nil, 8},
		{[]int{-1, 5, mostKey + 1, 6}, nil, 8},
		{[]int{5, 50}, []int{5, 50}, 11},
		{[]int{0, 0}, []int{0, 0}, 11},
		{[]int{mostKey, highest}, []int{mostKey, highest}, 11},
		{[]int{5, 50, 5, 50}, []int{5, 50}, 12},
		{[]int{5, 50, 5, 50, 5, 50}, []int{5, 50}, 13},
		{[]int{5, 50, 5, 51}, []int{5, 51}, 19},
		{[]int{5, 50, 5, 51, 5, 50}, []int{5, 50}, 27},
		{[]int{0, lowest, mostKey, highest}, []int{0, lowest, mostKey, highest}, 18},
		{[]int{mostKey, lowest, 0, highest}, []int{0, highest, mostKey, lowest}, 18},
		{[]int{7, 70, -1, 1, 5, 50}, []int{5, 50, 7, 70}, 18},
		{[]int{5, 50, 7, 70, 5, 51}, []int{5, 51, 7, 70}, 34},
		{[]int{5, 50, 7, 70, 5, 50}, []int{5, 50, 7, 70}, 20},
		{[]int{5, 50, 7, 70, 6, 60}, []int{5, 50, 6, 60, 7, 70}, 33},
	} {
		s := parts(1, 9, x.source...)
		for _, call := range []api.Call{ready(0), wait(0)} {
			r := newReal(t, s)
			r.wants(t, fmt.Sprintf("P15.3: source %v", x.source), call, good(), x.own)
			if a := r.tell(nil, 0); !sameAnswer(a, first1(x.holds...)) {
				t.Errorf("P15.9: source %v: %+v", x.source, a)
			}
			if got := r.state(); got.used() != slotsFor(len(x.holds)/2) {
				t.Errorf("P15.8: source %v: %+v", x.source, got)
			}
			wantFilm(t, "P15.3: a source", mixed{s, work([]api.Call{call, tell(0)})})
		}
	}
}

// A source and a list of chains may be changed behind New; New changes neither.
func TestWhatIsHandedInIsNotKept(t *testing.T) {
	p, _ := pool.New(40)
	k, _ := clock.New(1)
	var list []*chain.Chain
	for range 5 {
		list = append(list, chain.New(p, k))
	}
	spare := chain.New(p, k)
	kept := slices.Clone(list)
	source := pairs(0, 1, mostKey, 2, 0, 3, 1<<31, 4, 98, 98, 99, 99)
	was := slices.Clone(source)
	x := load.New(p, list[:3], source[:4], 1)
	if !slices.Equal(list, kept) || !slices.Equal(source, was) {
		t.Errorf("rule 3: New changed what was handed in: %v, %v", source, list)
	}
	for i := range source {
		source[i] = api.Pair{Key: 7, Value: -99}
	}
	for i := range list {
		list[i] = spare
	}
	if got := x.States(); len(got) != 3 {
		t.Fatalf("P15.1: %v", got)
	}
	r := real{x, p, kept[:3]}
	for i, want := range []api.Answer{first1(0, 3), first1(1<<31, 4), first1(mostKey, 2)} {
		if err := x.Ready(nil, i); err != fails {
			t.Errorf("P15.1: %v", err)
		}
		if err := x.Ready(nil, i); err != api.OK {
			t.Errorf("P15.1: %v", err)
		}
		if a := r.tell(nil, i); !sameAnswer(a, want) {
			t.Errorf("P15.1: part %d: %+v", i, a)
		}
	}
	if len(spare.Versions()) != 0 || len(kept[3].Versions()) != 0 {
		t.Errorf("P15.1: a chain that isn't a part's: %v, %v", spare.Versions(), kept[3].Versions())
	}
}

// Pairs may be changed while a loading is under way, too.
func TestSourceIsChangedInTheMidst(t *testing.T) {
	s := example(9)
	source := slices.Clone(s.Source)
	s.Source = source
	r := newReal(t, s)
	run, err := crew.Run(work([]api.Call{ready(0)}, []api.Call{{}}), does(func(w *crew.Worker, c api.Call) api.Answer {
		if w.Number() == 0 {
			return r.Do(w, c)
		}
		for range 5 {
			w.Step()
		}
		for i := range source {
			source[i] = api.Pair{Key: 9, Value: 9}
		}
		return api.Answer{}
	}))
	if a := r.tell(nil, 0); err != api.OK || !run.Answers[0][0].Ok || !sameAnswer(a, first1(5, 51, 7, 70)) {
		t.Errorf("P15.1: %+v, %v, %+v", run, err, a)
	}
}

// So many loadings of each part fail, whoever does them, each in three lines; then it is loaded.
func TestFails(t *testing.T) {
	for _, n := range []int{lowest, lowest + 1, -7, -1, 0, 1, 2, 3, 7, highest - 1, highest} {
		r := newReal(t, failing(parts(3, 20, 0, 1, 1, 2, mostKey, 3), n))
		for part, own := range []int{18, 8, 11} {
			for i := range min(max(0, n), 40) {
				call := []api.Call{ready(part), wait(part)}[i%2]
				r.wantLines(t, fmt.Sprintf("P15.3: %d fail", n), call, failed(fails), lines(still(1), becomes(part, 1), becomes(part, 0)))
				r.wants(t, "P15.3: behind one that failed", ask(part), is(0), 1)
			}
			if n < 40 {
				r.wants(t, fmt.Sprintf("P15.3: %d fail, and then", n), ready(part), good(), own)
				r.wants(t, "P15.3: it is there", wait(part), good(), 1)
			}
		}
		if got := r.state(); n > 40 && got.used() != 0 {
			t.Errorf("P15.8: %+v", got)
		}
	}
}

// What fails as it must takes no slot; an error of the pool isn't counted as one that fails, and comes behind these.
func TestFailsAndErrors(t *testing.T) {
	r := newReal(t, failing(example(2), 2))
	for _, want := range []api.Errno{fails, fails, full, full, full} {
		a := r.by(t, ready(0))
		if got := r.state(); a.Err != want || got.used() != 0 || got.states[0] != 0 {
			t.Errorf("P15.3: %+v, want %v: %+v", a, want, got)
		}
	}
	r = newReal(t, failing(parts(1, 3, 5, 50), 1))
	r.do(t, slot(1), slot(2))
	for _, want := range []api.Errno{fails, full, full} {
		if a := r.by(t, wait(0)); a.Err != want {
			t.Errorf("P15.3: %+v, want %v", a, want)
		}
	}
	r.do(t, give(one), ready(0)) // there is room now
	r.wants(t, "P15.3: behind errors", tell(0), first1(5, 50), 4)
}

// Ready, Wait and State of a part that is being loaded, wherever who loads it is.
func TestOfAPartThatIsBeingLoaded(t *testing.T) {
	for at := 2; at < exampleOwn; at++ {
		for _, by := range []api.Call{ready(0), wait(0)} {
			r := newReal(t, example(9)).halted(t, by, at)
			r.wantLines(t, "P15.2: being loaded", ready(0), failed(busy), still(1))
			r.wantLines(t, "P15.4: being loaded", ask(0), is(1), still(1))
			was := r.state()
			for _, until := range []int{1, 2, 3, 50} {
				c := work([]api.Call{wait(0)})
				c.Until = until
				run, err := crew.Run(c, r)
				if err != api.OK || !run.Cut || !slices.Equal(run.Open, []api.Open{{Worker: 0, Begin: 1, Own: until}}) {
					t.Fatalf("P15.2: Wait of a part that is being loaded: %+v, %v", run, err)
				}
			}
			r.wantState(t, "P15.2: who waits changes nothing", was)
		}
	}
	// Of a part of which somebody has done line 1 alone nobody knows.
	r := newReal(t, example(9)).halted(t, ready(0), 1)
	r.wants(t, "P15.2: line 1 alone", ask(0), is(0), 1)
	r.wants(t, "P15.2: line 1 alone", ready(0), good(), exampleOwn)
}

// A cas that isn't done: the state is loaded again.
func TestCasThatIsNotDone(t *testing.T) {
	for _, call := range []api.Call{ready(0), wait(0)} {
		r := newReal(t, example(9))
		a, others := r.broken(t, call, 1, ready(0))
		if !sameAnswer(a, good()) || a.Own != 3 || others[0].Own != exampleOwn || !others[0].Ok {
			t.Errorf("P15.2: loaded between line 1 and line 2: %+v, %+v", a, others)
		}
		r = newReal(t, failing(example(9), 1))
		a, others = r.broken(t, call, 1, ready(0), ask(0))
		if !sameAnswer(a, good()) || a.Own != exampleOwn || others[0].Err != fails || others[1].N != 0 {
			t.Errorf("P15.2: a loading failed between line 1 and line 2: %+v, %+v", a, others)
		}
		r = newReal(t, example(2))
		a, others = r.broken(t, call, 1, wait(0), ask(0))
		if !sameAnswer(a, failed(full)) || others[0].Err != full || a.Own != others[0].Own || others[1].N != 0 {
			t.Errorf("P15.2: a loading had no room between line 1 and line 2: %+v, %+v", a, others)
		}
	}
	// The cas of worker 0 comes twice while worker 1 is at it: that one fails each time.
	for _, call := range []api.Call{ready(0), wait(0)} {
		x := mixed{failing(example(9), 2), work([]api.Call{call}, []api.Call{ready(0), wait(0), ask(0), ask(0), ready(0)})}
		x.c.Turns = []int{0, 1, 1, 0, 1, 0, 1, 1, 0, 1, 0, 1, 0, 1, 1}
		f := wantFilm(t, "P15.2: goes round", x)
		a, b := f.run.Answers[0][0], f.run.Answers[1]
		if !sameAnswer(a, good()) || a.Own != 4+exampleOwn || b[0].Err != fails || b[1].Err != fails || b[2].N != 0 || b[3].N != 1 || b[4].Err != busy {
			t.Errorf("P15.2: goes round: %+v", f.run)
		}
	}
}

// A pool that is full at the first Take of all: of a pair, or of the version.
func TestFullAtTheFirstTake(t *testing.T) {
	for _, source := range [][]int{nil, {5, 50}, {5, 50, 7, 70}} {
		r := newReal(t, parts(1, 1, source...)).do(t, slot(1))
		for range 2 {
			r.wantLines(t, "P15.3: no slot at all", ready(0), failed(full), loads(still(1), becomes(0, 0)))
			r.wantLines(t, "P15.3: no slot at all", wait(0), failed(full), loads(still(1), becomes(0, 0)))
		}
	}
}

// A pool that is full at First: all nodes are given back, the one made last first.
func TestFullAtFirst(t *testing.T) {
	r := newReal(t, parts(1, 1, 5, 50))
	r.wantLines(t, "P15.3: one node, no version", ready(0), failed(full), loads(takes(1, leaf(5, 50)), still(1), back(1), becomes(0, 0)))
	r = newReal(t, parts(1, 3, 5, 50, 7, 70))
	r.wantLines(t, "P15.3: three nodes, no version", wait(0), failed(full), loads(twoKeys(), still(1), back(3, 2, 1), becomes(0, 0)))
	r = newReal(t, parts(1, 3, 5, 50, 7, 70))
	r.do(t, slot(1), give(one))
	// The same slots, of another generation, taken in another order.
	r.wantLines(t, "P15.3: again", ready(0), failed(full), loads(
		takes(1, leaf(5, 50)), still(1), takes(2, leaf(7, 70)), takes(3, inner(4, 1, word(1, 3), two, 2)), still(1), back(3, 2, 1), becomes(0, 0),
	))
	r.wantLines(t, "P15.3: and again", ready(0), failed(full), loads(
		takes(1, leaf(5, 50)), still(1), takes(2, leaf(7, 70)), takes(3, inner(4, 1, word(1, 5), word(2, 3), 2)), still(1), back(3, 2, 1), becomes(0, 0),
	))
}

// What a Put did without is given back at once, in Gone's order; what is left goes back in the order of its making, not of its slots.
func TestOrderOfGiving(t *testing.T) {
	s := parts(1, 5, 5, 50, 7, 70, 5, 51, 9, 90)
	tree := lines(exampleTree(),
		still(1), takes(3, leaf(9, 90)), takes(1, inner(0, 3, five, word(3, 3), 3)),
	)
	r := newReal(t, s)
	r.wantLines(t, "P15.3: full at First", ready(0), failed(full), loads(tree, still(1), back(1, 3, 5, 4, 2), becomes(0, 0)))
	s.Slots = 6
	r = newReal(t, s)
	r.wantLines(t, "P15.3: room enough", ready(0), good(), loads(tree, leads(0, 6, word(1, 3)), becomes(0, 2)))
	// Full at a Put that is none of the first ones: it gives back its own, then the loading all others.
	s = parts(1, 6, 5, 50, 7, 70, 5, 51, 9, 90, 4, 40)
	r = newReal(t, s)
	r.wantLines(t, "P15.3: full at a Put", ready(0), failed(full), loads(
		tree, still(3), takes(6, leaf(4, 40)), still(1), back(6), back(1, 3, 5, 4, 2), becomes(0, 0),
	))
	// Of a leaf, and of two inner nodes above it.
	s = parts(1, 20, 5, 50, 7, 70, 9, 90, 5, 51)
	r = newReal(t, s)
	r.wantLines(t, "P15.3: Gone's order", wait(0), good(), loads(
		twoKeys(), still(1), takes(4, leaf(9, 90)), takes(5, inner(0, 3, three, four, 3)),
		still(3), takes(6, leaf(5, 51)), takes(7, inner(4, 1, word(6, 1), two, 2)), takes(8, inner(0, 3, word(7, 1), four, 3)), back(1, 3, 5),
		leads(0, 5, word(8, 1)), becomes(0, 2),
	))
}

// need: how many slots a loading of the source needs at least.
func need(t *testing.T, s api.Setup) int {
	t.Helper()
	for s.Slots = 1; s.Slots < 100; s.Slots++ {
		if r := newReal(t, s); r.x.Ready(nil, 0) == api.OK {
			return s.Slots
		}
	}
	t.Fatalf("%+v: no pool does", s)
	return 0
}

// Pools of each size that is too small, and the first that does.
func TestPoolsOfEachSize(t *testing.T) {
	for _, source := range [][]int{
		nil, {5, 50}, {5, 50, 5, 51}, {5, 50, 7, 70, 5, 51}, {5, 50, 7, 70, 5, 51, 9, 90, 4, 40, 7, 71, mostKey, 1, 5, 50},
		{8, 1, 4, 1, 2, 1, 1, 1, 0, 1, 0, 2, 8, 2}, {0, 1, 1, 1, 2, 1, 3, 1, 4, 1, 3, 2, 2, 2, 1, 2, 0, 2},
	} {
		s := parts(1, 1, source...)
		enough := need(t, s)
		for s.Slots = 1; s.Slots <= enough+1; s.Slots++ {
			want := full
			if s.Slots >= enough {
				want = api.OK
			}
			for _, call := range []api.Call{ready(0), wait(0)} {
				f := wantFilm(t, "P15.3: a pool of each size", mixed{s, work([]api.Call{call, ask(0), call})})
				a := f.run.Answers[0]
				if a[0].Err != want || a[2].Err != want {
					t.Errorf("P15.3: source %v, %d slots: %+v", source, s.Slots, a)
				}
				if last := f.moments[len(f.moments)-1]; want == full && (last.used() != 0 || len(last.free) != s.Slots || last.states[0] != 0 || len(last.versions[0]) != 0) {
					t.Errorf("P15.8: source %v, %d slots: %+v", source, s.Slots, last)
				}
			}
		}
		if s.Slots = enough - 1; enough > 1 {
			r := newReal(t, s)
			if a := r.by(t, ready(0)); a.Err != full {
				t.Errorf("P15.3: source %v, %d slots: %+v", source, s.Slots, a)
			}
		}
	}
}

// A chain that has a version already: the part never comes to be there.
func TestChainThatHasAVersion(t *testing.T) {
	r := newReal(t, parts(1, 3)).do(t, first(0, 0, 9))
	for range 2 {
		r.wantLines(t, "P15.3: First's error, no pairs", ready(0), failed(once), loads(leadsLate(2, 0), becomes(0, 0)))
	}
	r.wants(t, "P15.3: the version is as it was", tell(0), is(9), 3)
	r = newReal(t, example(9)).do(t, first(0, 0, 9))
	for i := range 2 {
		a := r.by(t, wait(0))
		if got := r.state(); a.Err != once || got.used() != 1 || got.states[0] != 0 || !slices.Equal(got.versions[0], []int{one}) || len(got.free) != 8 {
			t.Errorf("P15.3: First's error, %d: %+v, %+v", i, a, got)
		}
	}
	r = newReal(t, parts(1, 9, 5, 50, 7, 70)).do(t, first(0, 0, 9))
	r.wantLines(t, "P15.3: First's error", ready(0), failed(once), loads(
		takes(2, leaf(5, 50)), still(1), takes(3, leaf(7, 70)), takes(4, inner(4, 1, two, three, 2)),
		leadsLate(5, four), back(4, 3, 2), becomes(0, 0),
	))
	r.wants(t, "P15.3: the version is as it was", tell(0), is(9), 3)
}

// Whoever lays a version in the midst of a loading: First's cas fails, up to its last line.
func TestVersionThatComesInTheMidst(t *testing.T) {
	for at := range exampleOwn + 1 {
		x := mixed{example(12), work([]api.Call{ready(0), ask(0)}, []api.Call{first(0, 0, 9), ask(0), ask(0)})}
		x.c.Turns = append(make([]int, at), slices.Repeat([]int{1}, 5)...)
		f := wantFilm(t, "P15.3: First's error", x)
		want := failed(once)
		if at >= exampleOwn-1 {
			want = good()
		}
		if a := f.run.Answers[0][0]; !sameAnswer(a, want) {
			t.Errorf("P15.3: a version behind %d lines: %+v, want %+v", at, f.run, want)
		}
	}
}

// Somebody gives back what a loading has made: an error of Put or of First ends it, one of Give doesn't; what is left goes back.
func TestNodesThatAreGivenBackByOthers(t *testing.T) {
	errs := map[api.Errno]int{}
	for _, s := range []api.Setup{example(5), example(9), parts(1, 20, 5, 50, 7, 70, 5, 51, 9, 90, 4, 40, 7, 71)} {
		lines := newModel(s).alone(ready(0)).Own
		for h := 1; h <= 7; h++ {
			for at := range lines + 1 {
				x := mixed{s, work([]api.Call{ready(0), ask(0), ready(0)}, []api.Call{give(word(h, 1))})}
				x.c.Turns = append(make([]int, at), 1, 1, 1, 1)
				a := wantFilm(t, "P15.3: spoilt", x).run.Answers[0]
				errs[a[0].Err]++
				if isThere := a[1].N == 2; isThere != (a[0].Err == api.OK) || !isThere && a[1].N != 0 {
					t.Errorf("P15.3: spoilt: %+v, %+v", x, a)
				}
			}
		}
	}
	if errs[api.OK] < 50 || errs[gone] < 50 {
		t.Errorf("the cases are too plain: %v", errs)
	}
}

// Two Loads over one pool have no more in common than that; over one chain the second one finds a version.
func TestLoadsDoNotTouch(t *testing.T) {
	r := newReal(t, parts(2, 20, 5, 50, mostKey, 9))
	o := newReal(t, parts(2, 20))
	k, _ := clock.New(1)
	o.p, o.chains = r.p, []*chain.Chain{chain.New(r.p, k), chain.New(r.p, k)}
	o.x = load.New(r.p, o.chains, pairs(5, 51), 1)
	if err := o.x.Ready(nil, 0); err != fails {
		t.Errorf("rule 6: %v", err)
	}
	r.do(t, ready(0))
	o.do(t, ready(0))
	if a, b := r.tell(nil, 0), o.tell(nil, 0); !sameAnswer(a, first1(5, 50)) || !sameAnswer(b, first1(5, 51)) {
		t.Errorf("rule 6: %+v, %+v", a, b)
	}
	if !slices.Equal(r.x.States(), []int{2, 0}) || !slices.Equal(o.x.States(), []int{2, 0}) {
		t.Errorf("rule 6: %v, %v", r.x.States(), o.x.States())
	}
	second := real{load.New(r.p, r.chains, pairs(5, 52), 0), r.p, r.chains}
	second.wants(t, "P15.3: another Load's version", ready(0), failed(once), 2+3+9+4+1)
	if a := r.tell(nil, 0); !sameAnswer(a, first1(5, 50)) || r.state().used() != 4 {
		t.Errorf("rule 6: %+v, %+v", a, r.state())
	}
}

// States does no line; its list is its owner's own.
func TestStates(t *testing.T) {
	r := newReal(t, parts(3, 9)).do(t, ready(1)).halted(t, wait(2), 4)
	var list []int
	run, err := crew.Run(work([]api.Call{{}}), does(func(w *crew.Worker, _ api.Call) api.Answer {
		for range 10 {
			list = r.x.States()
		}
		w.Step()
		w.Step()
		return api.Answer{}
	}))
	if err != api.OK || run.Steps != 2 || !slices.Equal(list, []int{0, 2, 1}) {
		t.Errorf("P15.4: %+v, %v, %v", run, err, list)
	}
	writeOver(list)
	again := r.x.States()
	if !slices.Equal(again, []int{0, 2, 1}) {
		t.Errorf("rule 3: %v", again)
	}
	r.do(t, ready(0))
	if !slices.Equal(again, []int{0, 2, 1}) || !slices.Equal(r.x.States(), []int{2, 2, 1}) {
		t.Errorf("rule 3: an answer was touched: %v, %v", again, r.x.States())
	}
}

// New does no line.
func TestNewHasNoLine(t *testing.T) {
	p, _ := pool.New(9)
	k, _ := clock.New(1)
	list := []*chain.Chain{chain.New(p, k)}
	run, err := crew.Run(work([]api.Call{{}}), does(func(w *crew.Worker, _ api.Call) api.Answer {
		w.Step()
		load.New(p, list, pairs(5, 50, 7, 70), 3)
		w.Step()
		return api.Answer{}
	}))
	if err != api.OK || run.Steps != 2 || len(p.Free()) != 9 || len(list[0].Versions()) != 0 {
		t.Errorf("P15.1: %+v, %v", run, err)
	}
}

// The first line of each call is done when it is its turn, also where it isn't the first line of what a worker does.
func TestBehindAnotherLine(t *testing.T) {
	for _, call := range []api.Call{ready(0), wait(0), ask(0)} {
		r := newReal(t, parts(1, 9))
		c := work([]api.Call{call}, []api.Call{ready(0)})
		c.Turns = append([]int{0}, slices.Repeat([]int{1}, 8)...)
		run, err := crew.Run(c, does(func(w *crew.Worker, c api.Call) api.Answer {
			if w.Number() == 0 {
				w.Step()
			}
			return r.Do(w, c)
		}))
		a := run.Answers[0][0]
		if err != api.OK || a.Own != 2 || !a.Ok || call.Kind == 3 && a.N != 2 {
			t.Errorf("P15.2, P15.4: %+v: %+v, %v", call, run, err)
		}
	}
}

// Calls done one behind the other, each with all its lines, by a worker of a run and alone.
func TestOneBehindTheOther(t *testing.T) {
	for _, alone := range []bool{false, true} {
		m := mixer(4)
		errs := map[api.Errno]int{}
		for range 400 {
			s := m.mixed(manners{}).s
			if s.Fails > 3 {
				s.Fails = 3
			}
			r, model := newReal(t, s), newModel(s)
			for range 25 {
				c := m.call(s, manners{wild: true, named: true})
				want := model.alone(c)
				var got api.Answer
				if alone {
					got = r.Do(nil, c)
					got.Own = want.Own
				} else {
					got = r.by(t, c)
				}
				if !sameAnswer(got, want) || got.Own != want.Own || !r.state().same(model.told()) {
					t.Fatalf("rule 10: %+v: %+v: %+v, %+v, want %+v, %+v", s, c, got, r.state(), want, model.told())
				}
				errs[got.Err]++
			}
		}
		for _, err := range []api.Errno{0, noCall, noPart, fails, full, none, once, gone} {
			if errs[err] < 20 {
				t.Errorf("the calls are too plain: %v comes %d times", err, errs[err])
			}
		}
	}
}

// Calls by their names, by the workers of a run, with others that give back what a loading has, and lay versions.
func TestByNameAgainstModel(t *testing.T) {
	errs := map[api.Errno]int{}
	mixedPlays(800, manners{wild: true, named: true}, func(x mixed) {
		for _, answers := range wantFilm(t, "by name", x).run.Answers {
			for _, a := range answers {
				errs[a.Err]++
			}
		}
	})
	for _, err := range []api.Errno{0, noCall, noPart, busy, fails, full, none, once, gone} {
		if errs[err] < 20 {
			t.Errorf("the cases are too plain: %v comes %d times", err, errs[err])
		}
	}
}

// Great parts: many keys in the greatest pool, and more pairs than there are slots.
func TestGreatSources(t *testing.T) {
	for _, keys := range []int{100, 2000} {
		for _, n := range []int{1, 7, mostParts} {
			s := parts(n, mostSlots)
			m := mixer(keys)
			for range 3 * keys {
				s.Source = append(s.Source, api.Pair{Key: m.below(keys) * (mostKey / keys), Value: m.below(5)})
			}
			newReal(t, s).wantHolds(t, "P15.9: many pairs", s)
		}
	}
	// As many pairs as a map's source may have, and one more: all are loaded.
	for _, count := range []int{api.MaxSource - 1, api.MaxSource, api.MaxSource + 1, 1500} {
		s := parts(1, mostSlots)
		for i := range count {
			s.Source = append(s.Source, api.Pair{Key: i * 1000003 % mostKey, Value: -i})
		}
		newReal(t, s).wantHolds(t, fmt.Sprintf("P15.9: %d pairs", count), s)
	}
}

// writeOver writes into a list and all the spare room behind it.
func writeOver(list []int) {
	list = list[:cap(list)]
	for i := range list {
		list[i] = -99
	}
}

// The pairs of a part that is there aren't kept.
func TestNothingIsKept(t *testing.T) {
	const size, most = 1 << 18, 1 << 20
	heap := func() int {
		runtime.GC()
		var m runtime.MemStats
		runtime.ReadMemStats(&m)
		return int(m.HeapAlloc)
	}
	before := heap()
	r := newReal(t, api.Setup{Parts: 1, Slots: 9, Source: slices.Repeat(pairs(5, 50), size)})
	if err := r.x.Ready(nil, 0); err != api.OK {
		t.Fatalf("P15.3: %v", err)
	}
	if more := heap() - before; more > most {
		t.Errorf("rule 8 of the language: behind a loading %d bytes are kept", more)
	}
	runtime.KeepAlive(r)
}
