package part_test

import (
	"fmt"
	"slices"
	"testing"

	"skein/api"
	"skein/chain"
	"skein/crew"
	"skein/part"
)

// The handles of slots that were taken once.
var one, two, three, four, five, six, seven = word(1, 1), word(2, 1), word(3, 1), word(4, 1), word(5, 1), word(6, 1), word(7, 1)

// example: the setup of the examples, in so many slots: when it is loaded, slot 1 is the leaf of 5, slot 2 the version.
func example(slots int) api.Setup { return parts(1, slots, 5, 50) }

// loads: the lines of the example's loading.
func loads() []change {
	return lines(still(1), becomes(0, 1), takes(1, leaf(5, 50)), leads(0, 2, one), becomes(0, 2))
}

const (
	loadOwn = 11 // the example's loading
	getOwn  = 8  // a Get that reads one node
	putOwn  = 21 // a Put of a key more upon one node
)

func TestFirstExample(t *testing.T) {
	const name = "example 1"
	r := newReal(t, example(60))
	r.wantLines(t, name, get(5), has(50, 1), lines(loads(), comes(), still(4), goes))
	r.wantLines(t, name, put(7, 70), made(2), inside(still(1), takes(3, leaf(7, 70)), takes(4, inner(4, 1, one, three, 2)), follows(0, 5, four, 2)))
	r.wantLines(t, name, put(7, 70), has(70, 2), inside(still(2)))
	r.wantLines(t, name, drop(5), madeOf(50, 3), inside(still(2), follows(0, 6, three, 3, one, four)))
	r.wantLines(t, name, drop(5), hasNone(3), inside(still(1)))
	r.wantLines(t, name, swap(7, 70, 71), madeOf(70, 4), inside(still(2), takes(7, leaf(7, 71)), follows(0, 8, seven, 4, three)))
	r.wantLines(t, name, swap(7, 70, 72), failed(other), inside(still(1)))
	r.wantLines(t, name, many(1, 1, 2, 2, 1, 3), laid(3, 5), inside(
		still(1), takes(9, leaf(1, 1)), takes(10, inner(0, 2, word(9, 1), seven, 2)),
		still(2), takes(11, leaf(2, 2)), takes(12, inner(0, 1, word(9, 1), word(11, 1), 2)), takes(13, inner(0, 2, word(12, 1), seven, 3)), back(10),
		still(3), takes(10, leaf(1, 3)), takes(14, inner(0, 1, word(10, 3), word(11, 1), 2)), takes(15, inner(0, 2, word(14, 1), seven, 3)), back(9, 12, 13),
		follows(0, 13, word(15, 1), 5),
	))
	r.wantHeld(t, name, 0, 5, 1, 3, 2, 2, 7, 71)
}

// wantRest asks for what the lines of a worker change from one on, its steps being the last ones of the run.
func (f filmed) wantRest(t *testing.T, promise string, k, from int, changes []change) {
	t.Helper()
	at := len(f.picks) - len(changes)
	did := 0
	for i, p := range f.picks {
		if p.k == k && i < at {
			did++
		}
		if p.k != k && i >= at {
			t.Fatalf("%s: %+v: step %d is another one's", promise, f.mixed, i+1)
		}
	}
	if did != from {
		t.Fatalf("%s: %+v: %d lines ahead of the last %d, want %d: %+v", promise, f.mixed, did, len(changes), from, f.run)
	}
	is := f.moments[at]
	for i, change := range changes {
		is = is.clone()
		change(&is)
		if !f.moments[at+i+1].same(is) {
			t.Fatalf("%s: %+v: behind line %d of the rest: %+v, want %+v", promise, f.mixed, i+1, f.moments[at+i+1], is)
		}
	}
}

// brokenOff: a call of worker 0 upon the example, which it has loaded, broken off behind so many lines by calls of worker 1.
func brokenOff(s api.Setup, call api.Call, at int, others ...api.Call) mixed {
	x := mixed{s, work([]api.Call{ready(0), call}, others)}
	x.c.Turns = append(make([]int, loadOwn+at), slices.Repeat([]int{1}, 300)...)
	return x
}

func TestSecondExample(t *testing.T) {
	// Both have made what they need; the second one's is a version more.
	again := lines(still(3),
		still(2), takes(3, leaf(1, 1)), takes(4, inner(0, 1, word(3, 3), five, 2)), takes(8, inner(0, 2, word(4, 3), one, 3)), follows(0, 9, word(8, 3), 3, six), goes,
	)
	f := wantFilm(t, "example 2", brokenOff(example(60), put(1, 1), 13, put(2, 2)))
	f.wantRest(t, "example 2", 0, loadOwn+13, lines(late(8, four, 2, two), back(4, 3), again))
	f = wantFilm(t, "example 2", brokenOff(example(60), put(1, 1), 16, put(2, 2)))
	// The other one's nodes are in other slots, as the version was taken ahead of them.
	f.wantRest(t, "example 2", 0, loadOwn+16, lines(still(1), back(5), back(4, 3), still(3),
		still(2), takes(3, leaf(1, 1)), takes(4, inner(0, 1, word(3, 3), six, 2)), takes(5, inner(0, 2, word(4, 3), one, 3)), follows(0, 9, word(5, 3), 3, seven), goes))
	if a, b := f.run.Answers[0][1], f.run.Answers[1][0]; !sameAnswer(a, made(3)) || !sameAnswer(b, made(2)) || b.Own != putOwn {
		t.Errorf("example 2: %+v", f.run)
	}
	last := f.moments[len(f.moments)-1]
	if held := last.holds(last.node(last.versions[0][0]).A); !slices.Equal(held, pairs(1, 1, 2, 2, 5, 50)) {
		t.Errorf("example 2: %v", held)
	}
}

func TestThirdExample(t *testing.T) {
	for halt := 1; halt < putOwn; halt++ {
		r := there(t, example(60)).halted(t, put(1, 1), halt)
		var answers []api.Answer
		for range 3 {
			answers = append(answers, lonely(t, work(nil, []api.Call{get(5)}), r))
		}
		for i, a := range answers {
			want, lines := has(50, 1), getOwn
			if halt >= 17 { // it is published
				want, lines = has(50, 2), getOwn+1
			}
			if halt >= 17 && halt < 20 && i == 0 { // and not settled
				lines += 2
			}
			if !sameAnswer(a, want) || a.Own != lines {
				t.Errorf("example 3: halted behind line %d: %+v, want %+v in %d lines", halt, a, want, lines)
			}
		}
	}
}

func TestNewHasNoLine(t *testing.T) {
	r := newReal(t, example(9))
	was := r.state()
	run, err := crew.Run(work([]api.Call{{}}), does(func(w *crew.Worker, _ api.Call) api.Answer {
		w.Step()
		part.New(0, 1, r.p, r.e, r.chains[0], r.l)
		w.Step()
		return api.Answer{}
	}))
	if err != api.OK || run.Steps != 2 {
		t.Errorf("P16.1: %+v, %v", run, err)
	}
	r.wantState(t, "P16.1: New", was)
}

// callsOf: a call of each kind with a key.
func callsOf(key int) []api.Call {
	return []api.Call{get(key), put(key, 1), drop(key), swap(key, 1, 2), many(key, 1)}
}

// A key of another part, or none, is refused by one line, ahead of all else: of a part that isn't there, and of one that is.
func TestKeysOfOtherParts(t *testing.T) {
	for _, n := range []int{1, 2, 3, 7, mostParts} {
		fresh, old := newReal(t, failing(parts(n, 200, 5, 50), 1)), there(t, parts(n, 200, 5, 50))
		for _, i := range []int{0, n / 2, n - 1} {
			for _, key := range otherKeys(i, n) {
				for _, call := range callsOf(key) {
					fresh.wantLines(t, fmt.Sprintf("P16.1: part %d of %d", i, n), of(i, call), failed(noKey), still(1))
					old.wantLines(t, fmt.Sprintf("P16.1: part %d of %d", i, n), of(i, call), failed(noKey), still(1))
				}
			}
		}
	}
}

// Of a Many any key may be the wrong one.
func TestManyWithAnotherPartsKey(t *testing.T) {
	for _, n := range []int{1, 3} {
		lo, hi := least(n/2, n), least(n/2+1, n)-1
		for _, key := range otherKeys(n/2, n) {
			r := there(t, parts(n, 60, 5, 50))
			for _, c := range []api.Call{many(key, 1, lo, 2, hi, 3), many(lo, 2, key, 1, hi, 3), many(lo, 2, hi, 3, key, 1), many(key, 1, key, 1), many(lo, 1, lo, 1, key, 1)} {
				r.wantLines(t, fmt.Sprintf("P16.1: the key %d", key), of(n/2, c), failed(noKey), still(1))
			}
		}
	}
}

// The refusal comes ahead of loadings that fail, of waiting, of workers that the epoch doesn't know.
func TestKeysComeFirst(t *testing.T) {
	for _, call := range callsOf(1 << 32) {
		r := newReal(t, example(60)).halted(t, get(5), 5)
		was := r.state()
		r.wants(t, "P16.1: ahead of the loading", of(0, call), failed(noKey), 1)
		if a := lonely(t, work(nil, nil, nil, []api.Call{of(0, call)}), r); !sameAnswer(a, failed(noKey)) || a.Own != 1 {
			t.Errorf("P16.1: ahead of the epoch: %+v", a)
		}
		r.wantState(t, "P16.1: refused", was)
	}
}

// The least and the greatest key of each part are its.
func TestEndsOfParts(t *testing.T) {
	for _, n := range []int{1, 2, 3, 5, 63, mostParts} {
		r := newReal(t, parts(n, mostSlots))
		for i := range n {
			lo, hi := least(i, n), least(i+1, n)-1
			r.do(t, of(i, put(lo, i)), of(i, many(hi, -i)), of(i, swap(hi, -i, lowest)))
			for _, x := range []struct {
				call api.Call
				want api.Answer
			}{
				{get(lo), has(i, 4)}, {get(hi), has(lowest, 4)}, {drop(lo), madeOf(i, 5)}, {drop(hi), madeOf(lowest, 6)},
			} {
				if a := r.by(t, of(i, x.call)); i > 0 && !sameAnswer(a, x.want) {
					t.Errorf("P16.1: part %d of %d: %+v: %+v, want %+v", i, n, x.call, a, x.want)
				}
			}
		}
	}
}

// A part of numbers that can't be has no keys; a Many without pairs goes on to the Load, which may have that part.
func TestPartsThatCantBe(t *testing.T) {
	r := there(t, parts(2, 60, 5, 50))
	told := func(w *crew.Worker, a *part.Part, c api.Call) (got api.Answer) { return full(callOf(w, a, c)) }
	wants := func(n, parts int, c api.Call, want api.Answer, lines int) {
		t.Helper()
		a := part.New(n, parts, r.p, r.e, r.chains[0], r.l)
		got := lonely(t, work([]api.Call{c}), does(func(w *crew.Worker, c api.Call) api.Answer { return told(w, a, c) }))
		if !sameAnswer(got, want) || got.Own != lines {
			t.Errorf("P16.1: part %d of %d: %+v: %+v, want %+v in %d lines", n, parts, c, got, want, lines)
		}
	}
	for _, parts := range append([]int{1, 2, mostParts}, noParts...) {
		for _, n := range []int{lowest, -1, 2, 64, 65, 1 << 32, highest} {
			for _, key := range []int{0, 5, 1 << 31, mostKey} {
				if isOf(key, n, parts) {
					continue
				}
				for _, call := range callsOf(key) {
					wants(n, parts, call, failed(noKey), 1)
				}
			}
			wants(n, parts, many(), failed(noPart), 1)
		}
		if parts < 1 || parts > mostParts {
			for _, call := range callsOf(5) {
				wants(0, parts, call, failed(noKey), 1)
			}
			wants(0, parts, many(), hasNone(1), 7)
		}
	}
	// Whose key it is hangs on the numbers that New is told, where it stands in the Load on the first one alone.
	wants(1, 3, get(least(1, 3)), hasNone(1), getOwn)
	wants(1, 3, get(1<<32-1), failed(noKey), 1)
}

// Get's lines, of trees of some shapes.
func TestGet(t *testing.T) {
	r := there(t, parts(1, 60))
	for _, key := range []int{0, 5, mostKey} {
		r.wantLines(t, "P16.2: no keys", get(key), hasNone(1), inside(still(1)))
	}
	r = there(t, parts(1, 60, 0, lowest))
	r.wantLines(t, "P16.2: one key", get(0), has(lowest, 1), inside(still(1)))
	r.wantLines(t, "P16.2: one key", get(1), hasNone(1), inside(still(1)))
	r = there(t, parts(1, 60, 5, 50, 7, 0))
	for _, x := range []struct {
		key   int
		want  api.Answer
		nodes int
	}{
		{5, has(50, 1), 2}, {7, has(0, 1), 2}, {4, hasNone(1), 2}, {6, hasNone(1), 2}, {3, hasNone(1), 1}, {8, hasNone(1), 1}, {0, hasNone(1), 1}, {mostKey, hasNone(1), 1},
	} {
		r.wantLines(t, "P16.2: two keys", get(x.key), x.want, inside(still(x.nodes)))
	}
	// A way as long as one can be: keys of one bit each.
	s := parts(1, 200, 0, -1)
	for i := range 32 {
		s.Source = append(s.Source, api.Pair{Key: 1 << i, Value: i})
	}
	r = there(t, s)
	r.wants(t, "P16.2: the longest way", get(0), has(-1, 1), getOwn-1+33)
	r.wants(t, "P16.2: the longest way", get(1), has(0, 1), getOwn-1+33)
	r.wants(t, "P16.2: a short way", get(1<<31), has(31, 1), getOwn-1+2)
}

// A Get loads the part, if nobody did.
func TestGetLoads(t *testing.T) {
	r := newReal(t, failing(example(60), 2))
	for range 2 {
		r.wantLines(t, "P16.2: Ready's error", get(5), failed(fails), lines(still(1), becomes(0, 1), becomes(0, 0)))
	}
	r.wantLines(t, "P16.2: it loads", get(5), has(50, 1), lines(loads(), comes(), still(4), goes))
	r.wantLines(t, "P16.2: it is there", get(5), has(50, 1), inside(still(1)))
	// Others' loading.
	for at := 2; at < loadOwn; at++ {
		r = newReal(t, example(60)).halted(t, get(5), at)
		r.wantLines(t, "P16.2: busy", get(5), failed(busy), still(1))
	}
	r = newReal(t, parts(1, 1, 5, 50))
	r.wantLines(t, "P16.2: no room", get(5), failed(noRoom), lines(still(1), becomes(0, 1), takes(1, leaf(5, 50)), still(1), back(1), becomes(0, 0)))
	// The cas comes too late.
	r = newReal(t, example(60))
	if a, others := r.broken(t, get(5), 1, get(5)); !sameAnswer(a, has(50, 1)) || a.Own != 2+getOwn || others[0].Own != loadOwn+getOwn-1 {
		t.Errorf("P16.2: loaded meanwhile: %+v, %+v", a, others)
	}
}

// Who meets a version that isn't settled settles it, with the stamp that is now.
func TestUnsettledVersions(t *testing.T) {
	const published = 17 // a Put's line that does the cas
	for _, ticks := range []int{0, 1, 3} {
		for halt := published; halt < published+3; halt++ {
			calls := []api.Call{get(5), put(1, 1), put(1, 2), drop(5), swap(5, 50, 50), many(1, 1), many()}
			for i, call := range calls {
				r := there(t, example(60)).halted(t, put(1, 1), halt)
				for range ticks {
					r.do(t, tick())
				}
				was := r.state()
				if h := was.versions[0][0]; was.slots[h>>40-1].Mark != 0 {
					t.Fatalf("P16.2: it is settled: %+v", was)
				}
				// Worker 1's, as worker 0 is within.
				c := work(nil, []api.Call{call})
				c.Halt = []int{0, 7}
				if _, err := crew.Run(c, r); err != api.OK {
					t.Fatalf("%v", err)
				}
				is := r.state()
				if h := is.versions[0][0]; is.slots[h>>40-1].Mark != 1+ticks {
					t.Errorf("P16.2, P16.3: call %d, %d ticks: %+v", i, ticks, is.slots[h>>40-1])
				}
			}
		}
	}
}

// The most lines that a Get does: of a version without keys that another one settles in between.
func TestMostLinesOfGet(t *testing.T) {
	const published = 1 + 2 + 2 + 1 + 1 + 3 + 1 // a Drop's lines up to its cas
	r := there(t, example(60)).halted(t, drop(5), published)
	c := work(nil, []api.Call{get(5)}, []api.Call{get(5)})
	// Worker 1: the state, Enter, the head, the mark, the clock's now; then worker 2 does all.
	c.Turns = append(make([]int, 6), slices.Repeat([]int{1}, 20)...)
	run, err := crew.Run(c, r)
	if err != api.OK || !sameAnswer(run.Answers[1][0], hasNone(2)) || run.Answers[1][0].Own != 11 || run.Answers[2][0].Own != 10 {
		t.Errorf("P16.7: %+v, %v", run, err)
	}
}

// spoilt: what stands in the way of a call of a part, and what it is told; ahead are the lines up to there.
type spoilt struct {
	name  string
	s     api.Setup
	ahead []api.Call
	want  api.Errno
	lines []change
}

// spoils: Top's errors, and errors of reading the tree; slot 3 is what was taken.
func spoils() []spoilt {
	s := example(60)
	return []spoilt{
		{"Top: the version was given back", s, []api.Call{give(two)}, gone, lines(still(1), comes(), still(1), faulty, goes)},
		{"the root is no handle", s, []api.Call{publish(0, 5, 9)}, noHandle, inside(still(1))},
		{"the root is below 0", s, []api.Call{publish(0, -1, 9)}, noHandle, inside(still(1))},
		{"the root was given back", s, []api.Call{give(one)}, gone, inside(faulty)},
		{"the root is no node", s, []api.Call{slot(-1, 2, 3, 4), publish(0, three, 9)}, noRoot, inside(still(1))},
		{"the root is a leaf of no key", s, []api.Call{slot(0, -1, 3, 1), publish(0, three, 9)}, noRoot, inside(still(1))},
		{"a node below the root was given back", s, []api.Call{put(7, 70), give(one)}, gone, inside(still(1), faulty)},
	}
}

func TestErrorsOfTopAndOfTrees(t *testing.T) {
	for _, x := range spoils() {
		for _, call := range []api.Call{get(5), put(5, 51), drop(5), swap(5, 50, 51), many(5, 51), many(5, 50)} {
			r := there(t, x.s).do(t, x.ahead...)
			r.wantLines(t, "P16.2, P16.3: "+x.name, call, failed(x.want), x.lines)
		}
	}
	// A Many without pairs reads no tree.
	r := there(t, example(60)).do(t, publish(0, 5, 9))
	r.wantLines(t, "P16.4: no pairs", many(), hasNone(9), inside())
}

// A chain without a version, though the Load has the part.
func TestNoVersion(t *testing.T) {
	for _, call := range append(callsOf(5), many()) {
		r := there(t, example(60))
		r.chains = []*chain.Chain{chain.New(r.p, r.k)}
		r.parts = []*part.Part{part.New(0, 1, r.p, r.e, r.chains[0], r.l)}
		r.wantLines(t, "P16.2, P16.3: no version", of(0, call), failed(none), lines(still(1), comes(), still(1), goes))
	}
}

// The version is given back between Top and Read.
func TestErrorsOfRead(t *testing.T) {
	for _, call := range []api.Call{get(5), put(5, 51), put(1, 1), drop(5), swap(5, 50, 51), many(5, 51), many()} {
		f := wantFilm(t, "P16.2, P16.3: Read's error", brokenOff(example(60), call, 5, give(two)))
		f.wantRest(t, "P16.2, P16.3: Read's error", 0, loadOwn+5, lines(faulty, goes))
		if a := f.run.Answers[0][1]; !sameAnswer(a, failed(gone)) || a.Own != 7 {
			t.Errorf("P16.2, P16.3: Read's error: %+v: %+v", call, a)
		}
	}
}

// A worker that the epoch doesn't know: Ready, or Wait, comes first; nothing is left.
func TestWorkersThatAreNone(t *testing.T) {
	for _, call := range append(callsOf(5), many()) {
		r := newReal(t, example(60))
		for _, lines := range []int{loadOwn + 1, 2, 2} {
			a := lonely(t, work(nil, nil, nil, []api.Call{call}), r)
			if !sameAnswer(a, failed(noWorker)) || a.Own != lines {
				t.Errorf("P16.2, P16.3: %+v: %+v, want %d lines", call, a, lines)
			}
		}
		r.wantHeld(t, "P16.2, P16.3: no worker", 0, 1, 5, 50)
		if s := r.state(); s.used() != 2 || !slices.Equal(s.at, []int{0, 0, 0}) {
			t.Errorf("P16.2, P16.3: %+v", s)
		}
	}
}

// Writes wait for a part that is being loaded, and load one that nobody did.
func TestWritesWait(t *testing.T) {
	writes := append(callsOf(5)[1:], many())
	for _, call := range writes {
		for at := 2; at < loadOwn; at++ {
			r := newReal(t, example(60)).halted(t, get(5), at)
			was := r.state()
			for _, until := range []int{1, 2, 40} {
				c := work([]api.Call{call})
				c.Until = until
				run, err := crew.Run(c, r)
				if err != api.OK || !run.Cut || !slices.Equal(run.Open, []api.Open{{Worker: 0, Begin: 1, Own: until}}) {
					t.Fatalf("P16.3: %+v of a part that is being loaded: %+v, %v", call, run, err)
				}
			}
			r.wantState(t, "P16.3: who waits changes nothing", was)
		}
		r := newReal(t, failing(example(60), 1))
		r.wantLines(t, "P16.3: Wait's error", call, failed(fails), lines(still(1), becomes(0, 1), becomes(0, 0)))
		r = newReal(t, parts(1, 1, 5, 50))
		r.wantLines(t, "P16.3: Wait's error", call, failed(noRoom), lines(still(1), becomes(0, 1), takes(1, leaf(5, 50)), still(1), back(1), becomes(0, 0)))
	}
	r := newReal(t, example(60))
	r.wantLines(t, "P16.3: it loads", put(5, 51), madeOf(50, 2), lines(loads(), comes(), still(3), still(1), takes(3, leaf(5, 51)), follows(0, 4, three, 2, one), goes))
}

func TestPut(t *testing.T) {
	r := there(t, parts(1, 60))
	r.wantLines(t, "P16.3: upon no keys", put(0, lowest), made(2), inside(takes(2, leaf(0, lowest)), follows(0, 3, two, 2)))
	r.wantLines(t, "P16.3: the value that is there", put(0, lowest), has(lowest, 2), inside(still(1)))
	r.wantLines(t, "P16.3: another value", put(0, highest), madeOf(lowest, 3), inside(still(1), takes(4, leaf(0, highest)), follows(0, 5, four, 3, two)))
	r.wantLines(t, "P16.3: a key more", put(mostKey, 0), made(4), inside(still(1), takes(6, leaf(mostKey, 0)), takes(7, inner(0, 31, four, six, 2)), follows(0, 8, seven, 4)))
	r.wantLines(t, "P16.3: the value 0", put(mostKey, 0), has(0, 4), inside(still(2)))
	r.wantLines(t, "P16.3: a leaf below", put(mostKey, 1), madeOf(0, 5), inside(still(2), takes(9, leaf(mostKey, 1)), takes(10, inner(0, 31, four, word(9, 1), 2)), follows(0, 11, word(10, 1), 5, six, seven)))
	r.wantHeld(t, "P16.3", 0, 5, 0, highest, mostKey, 1)
}

func TestDrop(t *testing.T) {
	r := there(t, parts(1, 60, 5, 50, 7, 70, 0, 1)) // slots: 1 to 3: 5, 7 and both; 4 and 5: 0, and all; 6: the version
	r.wantLines(t, "P16.4: of three", drop(7), madeOf(70, 2), inside(still(3), takes(7, inner(0, 2, four, one, 2)), follows(0, 8, seven, 2, two, three, five)))
	for _, key := range []int{7, 8, 1, mostKey} {
		r.wants(t, "P16.4: it isn't there", drop(key), hasNone(2), map[int]int{7: 9, 8: 8, 1: 9, mostKey: 8}[key])
	}
	r.wantLines(t, "P16.4: of two", drop(0), madeOf(1, 3), inside(still(2), follows(0, 9, one, 3, four, seven)))
	r.wantLines(t, "P16.4: it isn't there", drop(0), hasNone(3), inside(still(1)))
	r.wantLines(t, "P16.4: the last one", drop(5), madeOf(50, 4), inside(still(1), follows(0, 10, 0, 4, one)))
	r.wantLines(t, "P16.4: of none", drop(5), hasNone(4), inside(still(1)))
	r.wantHeld(t, "P16.4", 0, 4)
	r.wantLines(t, "P16.2: behind it", get(5), hasNone(4), inside(still(1)))
	r.wantLines(t, "P16.4: a Put behind it", put(5, 1), made(5), inside(takes(11, leaf(5, 1)), follows(0, 12, word(11, 1), 5)))
}

func TestSwap(t *testing.T) {
	r := there(t, parts(1, 60))
	r.wantLines(t, "P16.4: no keys", swap(5, 0, 1), failed(notThere), inside(still(1)))
	r.wantLines(t, "P16.4: no keys, old and value the same", swap(5, 0, 0), failed(notThere), inside(still(1)))
	r = there(t, parts(1, 60, 5, 50, 7, 0))
	for _, x := range []struct {
		call  api.Call
		want  api.Answer
		nodes int
	}{
		{swap(6, 0, 1), failed(notThere), 2}, {swap(4, 50, 50), failed(notThere), 2}, {swap(8, 0, 0), failed(notThere), 1},
		{swap(5, 49, 51), failed(other), 2}, {swap(5, 49, 50), failed(other), 2}, {swap(5, 51, 51), failed(other), 2}, {swap(7, 1, 1), failed(other), 2},
		{swap(5, lowest, highest), failed(other), 2},
		{swap(5, 50, 50), has(50, 1), 2}, {swap(7, 0, 0), has(0, 1), 2},
	} {
		r.wantLines(t, "P16.4: Swap", x.call, x.want, inside(still(x.nodes)))
	}
	// Slots: 1 to 3: the tree, 4: the version.
	r.wantLines(t, "P16.4: Swap", swap(7, 0, highest), madeOf(0, 2), inside(still(4), takes(5, leaf(7, highest)), takes(6, inner(4, 1, one, five, 2)), follows(0, 7, six, 2, two, three)))
	r.wantHeld(t, "P16.4: Swap", 0, 2, 5, 50, 7, highest)
}

// Manys of each kind: what they tell, how many lines they do, what is held then.
func TestMany(t *testing.T) {
	const base = 1 + 2 + 3 + 1 // the state, Enter, Top and Read, Leave
	const take, back, push = 3, 4, 3 + 1 + 3
	for _, x := range []struct {
		source, list []int
		want         api.Answer
		lines        int
		held         []int
	}{
		{nil, nil, hasNone(1), base, nil},
		{[]int{5, 50}, nil, hasNone(1), base, []int{5, 50}},
		{[]int{5, 50}, []int{5, 50}, hasNone(1), base + 1, []int{5, 50}},
		{[]int{5, 50}, []int{5, 50, 5, 50, 5, 50}, hasNone(1), base + 3, []int{5, 50}},
		{nil, []int{5, 50}, laid(1, 2), base + take + push, []int{5, 50}},
		{nil, []int{5, 50, 5, 50}, laid(1, 2), base + take + 1 + push, []int{5, 50}},
		{nil, []int{5, 50, 5, 51}, laid(2, 2), base + take + (1 + take + back) + push, []int{5, 51}},
		{nil, []int{5, 50, 5, 51, 5, 50}, laid(3, 2), base + take + 2*(1+take+back) + push, []int{5, 50}},
		{[]int{5, 50}, []int{5, 51}, laid(1, 2), base + 1 + take + push, []int{5, 51}},
		// It comes to the same map; but it is another tree.
		{[]int{5, 50}, []int{5, 51, 5, 50}, laid(2, 2), base + 1 + take + (1 + take + back) + push, []int{5, 50}},
		{nil, []int{0, lowest, mostKey, highest}, laid(2, 2), base + take + (1 + 2*take) + push, []int{0, lowest, mostKey, highest}},
		{[]int{5, 50}, []int{7, 70, 5, 50, 7, 70}, laid(1, 2), base + (1 + 2*take) + 2 + 2 + push, []int{5, 50, 7, 70}},
		{[]int{5, 50}, []int{5, 50, 7, 70}, laid(1, 2), base + 1 + (1 + 2*take) + push, []int{5, 50, 7, 70}},
		{[]int{5, 50, 7, 70}, []int{7, 71, 5, 51}, laid(2, 2), base + (2 + 2*take) + (2 + 2*take + back) + push, []int{5, 51, 7, 71}},
	} {
		s := parts(1, 60, x.source...)
		r := there(t, s)
		r.wants(t, fmt.Sprintf("P16.4: Many(%v) upon %v", x.list, x.source), many(x.list...), x.want, x.lines)
		r.wantHeld(t, fmt.Sprintf("P16.4: Many(%v) upon %v", x.list, x.source), 0, x.want.M, x.held...)
		wantFilm(t, "P16.4: Many", mixed{s, work([]api.Call{ready(0), many(x.list...), many(x.list...)})})
	}
}

// A node that a Many made and lets go of is given back at once, and is in neither list; all others that it lets go of are the version's set, in their order.
func TestManysLists(t *testing.T) {
	r := there(t, parts(1, 60, 5, 50, 7, 70, 0, 1)) // slots: 1 to 3: 5, 7 and both; 4 and 5: 0, and all; 6: the version
	r.wantLines(t, "P16.4: Many's lists", many(7, 71, 5, 51, 0, 1, 7, 72), laid(3, 2), inside(
		still(3), takes(7, leaf(7, 71)), takes(8, inner(4, 1, one, seven, 2)), takes(9, inner(0, 2, four, word(8, 1), 3)),
		still(3), takes(10, leaf(5, 51)), takes(11, inner(4, 1, word(10, 1), seven, 2)), takes(12, inner(0, 2, four, word(11, 1), 3)), back(8, 9),
		still(2),
		still(3), takes(9, leaf(7, 72)), takes(8, inner(4, 1, word(10, 1), word(9, 3), 2)), takes(13, inner(0, 2, four, word(8, 3), 3)), back(7, 11, 12),
		follows(0, 12, word(13, 1), 2, two, three, five, one),
	))
}

// A Many that finds no room gives back what is left of all that it made, the one made last first.
func TestManyWithoutRoom(t *testing.T) {
	tree := func() []change {
		return lines(
			still(1), takes(3, leaf(5, 51)),
			still(1), takes(4, leaf(5, 52)), back(3),
			still(1), takes(3, leaf(mostKey, 1)), takes(5, inner(0, 31, four, word(3, 3), 2)),
		)
	}
	r := there(t, example(5))
	r.wantLines(t, "P16.3: at Push", many(5, 51, 5, 52, mostKey, 1), failed(noRoom), inside(tree(), still(1), back(5, 3, 4)))
	r = there(t, example(5))
	r.wantLines(t, "P16.4: at a Put's first Take", many(5, 51, 5, 52, mostKey, 1, 7, 70), failed(noRoom), inside(tree(), still(3), back(5, 3, 4)))
	r = there(t, example(6))
	r.wantLines(t, "P16.4: in the midst of a Put", many(5, 51, 5, 52, mostKey, 1, 7, 70), failed(noRoom), inside(tree(), still(2), takes(6, leaf(7, 70)), still(1), back(6), back(5, 3, 4)))
	r = there(t, example(2))
	r.wantLines(t, "P16.4: at the first Take", many(5, 51), failed(noRoom), inside(still(2)))
	r.wantLines(t, "P16.4: at the first Take of a later Put", many(5, 50, 7, 70), failed(noRoom), inside(still(3)))
	r = there(t, example(3))
	r.wantLines(t, "P16.4: in the midst of the first Put", many(7, 70, 5, 51), failed(noRoom), inside(still(1), takes(3, leaf(7, 70)), still(1), back(3)))
	r.wantLines(t, "P16.3: at Push", many(5, 51), failed(noRoom), inside(still(1), takes(3, leaf(5, 51)), still(1), back(3)))
	r.wantHeld(t, "P16.4: behind errors", 0, 1, 5, 50)
}

// Other writes that find no room. What made nothing gives nothing back, and that is no line.
func TestWritesWithoutRoom(t *testing.T) {
	r := there(t, example(2))
	for range 2 {
		r.wantLines(t, "P16.3: Put, at the first Take", put(5, 51), failed(noRoom), inside(still(2)))
		r.wantLines(t, "P16.3: Put, at the first Take", put(7, 70), failed(noRoom), inside(still(2)))
		r.wantLines(t, "P16.3: Swap, at the first Take", swap(5, 50, 51), failed(noRoom), inside(still(3)))
		r.wantLines(t, "P16.3: Drop, at Push", drop(5), failed(noRoom), inside(still(2)))
		r.wantLines(t, "P16.3: it changes nothing", put(5, 50), has(50, 1), inside(still(1)))
		r.wantLines(t, "P16.3: it changes nothing", swap(5, 50, 50), has(50, 1), inside(still(1)))
		r.wantLines(t, "P16.3: it changes nothing", drop(6), hasNone(1), inside(still(1)))
		r.wantLines(t, "P16.2: a Get needs none", get(5), has(50, 1), inside(still(1)))
	}
	r = there(t, example(3))
	for range 2 {
		r.wantLines(t, "P16.3: Put, at Push", put(5, 51), failed(noRoom), inside(still(1), takes(3, leaf(5, 51)), still(1), back(3)))
		r.wantLines(t, "P16.3: Put, in the midst", put(7, 70), failed(noRoom), inside(still(1), takes(3, leaf(7, 70)), still(1), back(3)))
		r.wantLines(t, "P16.3: Swap, at Push", swap(5, 50, 51), failed(noRoom), inside(still(2), takes(3, leaf(5, 51)), still(1), back(3)))
	}
	r = there(t, example(4))
	r.wantLines(t, "P16.3: Put, at Push", put(7, 70), failed(noRoom), inside(still(1), takes(3, leaf(7, 70)), takes(4, inner(4, 1, one, three, 2)), still(1), back(4, 3)))
	r.wantHeld(t, "P16.3: behind errors", 0, 1, 5, 50)
	r.wantLines(t, "P16.3: there is room for it", drop(5), madeOf(50, 2), inside(still(1), follows(0, 3, 0, 2, one)))
	// A Drop that makes a node.
	r = there(t, parts(1, 7, 5, 50, 7, 70, 0, 1))
	r.wantLines(t, "P16.3: Drop, at Push", drop(7), failed(noRoom), inside(still(3), takes(7, inner(0, 2, four, one, 2)), still(1), back(7)))
	r = there(t, parts(1, 6, 5, 50, 7, 70, 0, 1))
	r.wantLines(t, "P16.3: Drop, at its Take", drop(7), failed(noRoom), inside(still(4)))
	r.wantHeld(t, "P16.3: behind errors", 0, 1, 0, 1, 5, 50, 7, 70)
}

// A write whose Push is false gives back what it made, and goes round, upon what was published meanwhile.
func TestPushThatComesLate(t *testing.T) {
	for _, x := range []struct {
		name  string
		call  api.Call
		at    int // its lines up to Push
		other api.Call
		want  api.Answer
		rest  []change
	}{
		{"Put", put(5, 51), 10, put(5, 52), madeOf(52, 3), lines(
			late(6, three, 2, two), back(3), still(3), still(1), takes(3, leaf(5, 51)), follows(0, 6, word(3, 3), 3, four), goes)},
		{"Put, that changes nothing then", put(5, 51), 10, put(5, 51), has(51, 2), lines(
			late(6, three, 2, two), back(3), still(3), still(1), goes)},
		{"Drop that made nothing", drop(5), 7, put(1, 1), madeOf(50, 3), lines(
			late(6, 0, 2, two), still(1), still(3), still(2), follows(0, 6, three, 3, one, four), goes)},
		{"Drop, that changes nothing then", drop(5), 7, drop(5), hasNone(2), lines(
			late(4, 0, 2, two), still(1), still(3), still(1), goes)},
		{"Swap", swap(5, 50, 51), 11, put(1, 1), madeOf(50, 3), lines(
			late(7, three, 2, two), back(3), still(3), still(4), takes(3, leaf(5, 51)), takes(7, inner(0, 2, four, word(3, 3), 2)), follows(0, 8, word(7, 3), 3, one, five), goes)},
		{"Swap of what isn't so any more", swap(5, 50, 51), 11, swap(5, 50, 52), failed(other), lines(
			late(6, three, 2, two), back(3), still(3), still(1), goes)},
		{"Swap of what isn't there any more", swap(5, 50, 51), 11, drop(5), failed(notThere), lines(
			late(5, three, 2, two), back(3), still(3), still(1), goes)},
		{"Many", many(5, 51, 7, 70), 7 + 3 + 7, many(7, 71), laid(2, 3), lines(
			late(9, five, 2, two), back(5, 4, 3), still(3),
			still(2), takes(3, leaf(5, 51)), takes(4, inner(4, 1, word(3, 3), six, 2)),
			still(2), takes(5, leaf(7, 70)), takes(9, inner(4, 1, word(3, 3), word(5, 3), 2)), back(4),
			follows(0, 4, word(9, 3), 3, one, seven, six), goes)},
		{"Many, that changes nothing then", many(5, 51), 10, put(5, 51), hasNone(2), lines(
			late(6, three, 2, two), back(3), still(3), still(1), goes)},
	} {
		f := wantFilm(t, "P16.3: "+x.name, brokenOff(example(60), x.call, x.at, x.other))
		f.wantRest(t, "P16.3: "+x.name, 0, loadOwn+x.at, x.rest)
		if a := f.run.Answers[0][1]; !sameAnswer(a, x.want) || a.Own != x.at+len(x.rest) {
			t.Errorf("P16.3: %s: %+v, want %+v", x.name, a, x.want)
		}
	}
}

// Somebody spoils a version that is published, and not settled: that is Push's error, too, and what was made goes back.
func TestPushThatCantSettle(t *testing.T) {
	f := wantFilm(t, "P16.3: Push's error", brokenOff(example(60), put(7, 70), 17, give(five)))
	f.wantRest(t, "P16.3: Push's error", 0, loadOwn+17, lines(faulty, back(4, 3), goes))
	f = wantFilm(t, "P16.3: Push's error", brokenOff(example(60), drop(5), 11, give(three)))
	f.wantRest(t, "P16.3: Push's error, nothing was made", 0, loadOwn+11, lines(faulty, goes))
	if a := f.run.Answers[0][1]; !sameAnswer(a, failed(gone)) {
		t.Errorf("P16.3: Push's error: %+v", a)
	}
}

// A write that is broken off goes round just if the head was loaded ahead of it, and its cas comes behind it.
func TestRounds(t *testing.T) {
	for _, x := range []struct {
		call api.Call
		own  int // its lines alone
		cas  int // the line of its cas
	}{
		{put(5, 51), 18, 14}, {put(1, 1), putOwn, 17}, {drop(5), 15, 11}, {swap(5, 50, 51), 19, 15}, {many(5, 51), 18, 14}, {many(1, 1, 3, 3), 36, 32},
	} {
		for at := range x.own + 1 {
			f := wantFilm(t, "P16.8", brokenOff(example(60), x.call, at, put(mostKey, 1)))
			a, b := f.run.Answers[0][1], f.run.Answers[1][0]
			number, late := 2, at >= 4 && at < x.cas
			if at < x.cas {
				number = 3
			}
			rounds := 0
			for _, is := range f.rounds {
				rounds += 1 - is.k
			}
			if !a.Ok || a.M != number || b.M != 5-number || rounds != 1+bit(late) {
				t.Errorf("P16.8: %+v broken off behind %d lines: %d rounds, %+v", x.call, at, rounds, f.run)
			}
			// Who publishes behind its cas settles its version, if it hasn't yet.
			own := x.own
			switch at - x.cas {
			case 0:
				own -= 2
			case 1, 2:
				own++
			}
			if at >= x.cas && a.Own != own || at < x.cas && b.Own != putOwn {
				t.Errorf("P16.8: %+v broken off behind %d lines: %+v", x.call, at, f.run)
			}
		}
	}
}

// As often as others publish in between it goes round.
func TestManyRounds(t *testing.T) {
	for _, times := range []int{1, 2, 5, 12} {
		others := []api.Call{}
		for i := range times {
			others = append(others, put(5, 100+i))
		}
		x := mixed{example(200), work([]api.Call{ready(0), put(5, 51)}, others)}
		x.c.Turns = make([]int, loadOwn+3)
		for range times {
			// It has made its leaf; then another one publishes, and it gives back all.
			x.c.Turns = append(x.c.Turns, make([]int, 7)...)
			x.c.Turns = append(x.c.Turns, slices.Repeat([]int{1}, 18)...)
			x.c.Turns = append(x.c.Turns, make([]int, 12)...)
		}
		f := wantFilm(t, "P16.8: many rounds", x)
		rounds := 0
		for _, is := range f.rounds {
			rounds += 1 - is.k
		}
		if a := f.run.Answers[0][1]; rounds != 1+times || a.Own != 18+19*times || !sameAnswer(a, madeOf(99+times, 2+times)) {
			t.Errorf("P16.8: %d times: %d rounds, %+v", times, rounds, a)
		}
	}
}

// What calls tell, all of it: also what they leave at zero.
func TestTold(t *testing.T) {
	r := there(t, example(200))
	a := r.parts[0]
	wants := func(name string, want api.Told, err api.Errno) func(api.Told, api.Errno) {
		return func(got api.Told, e api.Errno) {
			t.Helper()
			if got != want || e != err {
				t.Errorf("%s: %+v, %v, want %+v, %v", name, got, e, want, err)
			}
		}
	}
	wants("P16.2: Get", api.Told{Value: 50, Had: true, Number: 1}, 0)(a.Get(nil, 5))
	wants("P16.2: Get", api.Told{Number: 1}, 0)(a.Get(nil, 6))
	wants("P16.3: Put", api.Told{Number: 2, New: true}, 0)(a.Put(nil, 6, 60))
	wants("P16.3: Put", api.Told{Value: 60, Had: true, Number: 3, New: true}, 0)(a.Put(nil, 6, 61))
	wants("P16.3: Put", api.Told{Value: 61, Had: true, Number: 3}, 0)(a.Put(nil, 6, 61))
	wants("P16.3: Put", api.Told{Value: 61, Had: true, Number: 4, New: true}, 0)(a.Put(nil, 6, 0))
	wants("P16.2: Get", api.Told{Had: true, Number: 4}, 0)(a.Get(nil, 6))
	wants("P16.3: Put", api.Told{Had: true, Number: 4}, 0)(a.Put(nil, 6, 0))
	wants("P16.4: Swap", api.Told{Had: true, Number: 4}, 0)(a.Swap(nil, 6, 0, 0))
	wants("P16.4: Swap", api.Told{Had: true, Number: 5, New: true}, 0)(a.Swap(nil, 6, 0, 7))
	wants("P16.4: Swap", api.Told{}, other)(a.Swap(nil, 6, 8, 8))
	wants("P16.4: Swap", api.Told{}, notThere)(a.Swap(nil, 7, 8, 8))
	wants("P16.4: Drop", api.Told{Number: 5}, 0)(a.Drop(nil, 7))
	wants("P16.4: Drop", api.Told{Value: 7, Had: true, Number: 6, New: true}, 0)(a.Drop(nil, 6))
	wants("P16.4: Drop", api.Told{Number: 6}, 0)(a.Drop(nil, 6))
	wants("P16.4: Many", api.Told{Number: 6}, 0)(a.Many(nil, nil))
	wants("P16.4: Many", api.Told{Number: 6}, 0)(a.Many(nil, []api.Pair{}))
	wants("P16.4: Many", api.Told{Number: 6}, 0)(a.Many(nil, pairs(5, 50, 5, 50)))
	wants("P16.4: Many", api.Told{Number: 7, New: true, Many: 1}, 0)(a.Many(nil, pairs(5, 50, 5, 51)))
	wants("P16.4: Many", api.Told{Number: 8, New: true, Many: 4}, 0)(a.Many(nil, pairs(5, 1, 6, 2, 6, 2, 5, 3, 7, 0)))
	wants("P16.1", api.Told{}, noKey)(a.Get(nil, -1))
	wants("P16.1", api.Told{}, noKey)(a.Put(nil, -1, 1))
	wants("P16.1", api.Told{}, noKey)(a.Drop(nil, 1<<32))
	wants("P16.1", api.Told{}, noKey)(a.Swap(nil, 1<<32, 1, 1))
	wants("P16.1", api.Told{}, noKey)(a.Many(nil, pairs(5, 1, -1, 1)))
	r.wantHeld(t, "P16.4", 0, 8, 5, 3, 6, 2, 7, 0)
}

// Who is within already is one deeper, by a line without an access, and within still behind the call.
func TestWithinAlready(t *testing.T) {
	deeper := func(list ...any) []change { return lines(still(1), still(1), still(3), lines(list...), still(1)) }
	r := there(t, example(60)).do(t, enter(), advance(), enter())
	r.wantLines(t, "P16.2: deeper", get(5), has(50, 1), deeper(still(1)))
	r.wantLines(t, "P16.3: deeper", put(5, 51), madeOf(50, 2), deeper(still(1), takes(3, leaf(5, 51)), follows(0, 4, three, 2, one)))
	r.wantLines(t, "P16.3: deeper", drop(6), hasNone(2), deeper(still(1)))
	r.wantLines(t, "P16.3: deeper", swap(5, 1, 2), failed(other), deeper(still(1)))
	r.wantLines(t, "P16.3: deeper", many(), hasNone(2), deeper())
	if got := r.state(); !slices.Equal(got.at, []int{1, 0, 0}) || got.epoch != 2 {
		t.Errorf("P16.2: %+v", got)
	}
	r.do(t, leave(), leave())
	if a := r.by(t, leave()); a.Err != isOut {
		t.Errorf("P16.3: as deep as ahead: %+v", a)
	}
	// Of another epoch than the first one.
	r.wantLines(t, "P16.2: since now", get(5), has(51, 2), inside(still(1)))
}

// Nothing is retired: what a write lets go of is the version's set, and waits nowhere.
func TestNothingIsRetired(t *testing.T) {
	r := there(t, example(60)).do(t, put(5, 51), drop(5), put(7, 70), swap(7, 70, 71), many(7, 72, 5, 50, 7, 73))
	s := r.state()
	if !sameLists(s.waiting, make([][]int, 3)) || len(s.versions[0]) != 6 || s.faults != 0 {
		t.Errorf("P16.9: %+v", s)
	}
	for i, h := range s.versions[0] {
		if s.node(h).B != 6-i || s.node(h).C != 0 || s.node(h).D != 0 || s.slots[h>>40-1].Mark != 1 {
			t.Errorf("P16.3: %+v", s.slots[h>>40-1])
		}
	}
	r.do(t, advance(), advance())
	if a := r.by(t, collect()); !sameAnswer(a, good()) {
		t.Errorf("P16.9: %+v", a)
	}
}

// Versions get the stamp that is now.
func TestStamps(t *testing.T) {
	r := there(t, example(60)).do(t, tick(), put(5, 51), tick(), tick(), put(5, 52), drop(5))
	s := r.state()
	var stamps []int
	for _, h := range s.versions[0] {
		stamps = append(stamps, s.slots[h>>40-1].Mark)
	}
	if !slices.Equal(stamps, []int{4, 4, 2, 1}) {
		t.Errorf("P16.3: %v", stamps)
	}
}

// The list of a Many is neither changed nor kept, nor is the room behind it.
func TestManysListIsNotKept(t *testing.T) {
	r := there(t, example(60))
	list := pairs(7, 70, 5, 51, 7, 71, 98, 98, 99, 99)
	was := slices.Clone(list)
	told, err := r.parts[0].Many(nil, list[:3])
	if err != api.OK || told.Many != 3 || !slices.Equal(list, was) {
		t.Errorf("rule 3: %+v, %v, %v", told, err, list)
	}
	for i := range list {
		list[i] = api.Pair{Key: -1, Value: -99}
	}
	r.wantHeld(t, "rule 3", 0, 2, 5, 51, 7, 71)
	if got := r.state().sets[0][0]; !slices.Equal(got, []int{one}) {
		t.Errorf("rule 3: %v", got)
	}
}

// Two of one chain are one part; parts of two pools have nothing in common.
func TestPartsOverOneChain(t *testing.T) {
	r, o := there(t, example(60)), there(t, example(60))
	twin := r
	twin.parts = []*part.Part{part.New(0, 1, r.p, r.e, r.chains[0], r.l)}
	r.do(t, put(5, 51))
	twin.wants(t, "P16.1: over one chain", get(5), has(51, 2), getOwn)
	twin.wants(t, "P16.1: over one chain", put(5, 52), madeOf(51, 3), 18)
	r.wants(t, "P16.1: over one chain", get(5), has(52, 3), getOwn)
	o.wants(t, "rule 6", get(5), has(50, 1), getOwn)
}

// Parts of one pool don't meet but in it: each has its own versions and numbers.
func TestPartsOfOneMap(t *testing.T) {
	r := newReal(t, parts(3, 90, 0, 1, mostKey, 2))
	a, b, c := 0, least(1, 3), mostKey
	r.do(t, put(a, 5), put(a, 6), put(b, 7), drop(c), many(a+1, 1, a+2, 2))
	r.wantHeld(t, "P16.6: part 0", 0, 4, 0, 6, 1, 1, 2, 2)
	r.wantHeld(t, "P16.6: part 1", 1, 2, b, 7)
	r.wantHeld(t, "P16.6: part 2", 2, 2)
	r.wants(t, "P16.6", get(b), has(7, 2), getOwn)
}

// The first line of each call is done when it is its turn, also where it isn't the first line of what a worker does.
func TestBehindAnotherLine(t *testing.T) {
	for _, call := range append(callsOf(5), get(-1), put(-1, 1), many(), many(-1, 1)) {
		r := newReal(t, example(60))
		c := work([]api.Call{call}, []api.Call{put(5, 1)})
		c.Turns = append([]int{0}, slices.Repeat([]int{1}, 60)...)
		run, err := crew.Run(c, does(func(w *crew.Worker, c api.Call) api.Answer {
			if w.Number() == 0 {
				w.Step()
			}
			return r.Do(w, c)
		}))
		a := run.Answers[0][0]
		if err != api.OK || a.Err == api.OK && a.M < 2 || a.Err != api.OK && (a.Err != noKey || a.Own != 2) {
			t.Errorf("P16.2, P16.3: %+v: %+v, %v", call, run, err)
		}
	}
}

// Pools of each size: whatever is too much for one is told, and leaves the map as it was.
func TestPoolsOfEachSize(t *testing.T) {
	calls := []api.Call{put(7, 70), many(1, 1, 3, 3, 1, 2), drop(5), swap(7, 70, 71), many(5, 1, 6, 2, 5, 3, 4, 4), put(3, 9), drop(1), put(mostKey, 1), many(7, 1, mostKey, 2, 0, 3), drop(6)}
	errs := map[api.Errno]int{}
	for slots := 1; slots < 60; slots++ {
		x := mixed{example(slots), work(append(slices.Clone(calls), get(5)))}
		f := wantFilm(t, "P16.3: a pool of each size", x)
		held := map[int]int{5: 50}
		number := 1
		for i, a := range f.run.Answers[0] {
			errs[a.Err]++
			before, after := f.moments[a.Begin-1], f.moments[a.End]
			if a.Err != api.OK {
				if slots > 1 && i > 0 && (!sameLists(before.versions, after.versions) || before.used() != after.used() || len(before.free) != len(after.free)) {
					t.Fatalf("P16.3: %d slots: %+v: %+v, then %+v", slots, a, before, after)
				}
				continue
			}
			apply(held, x.c.Work[0][i])
			number += bit(a.Ok)
			h := after.versions[0][0]
			if got := after.holds(after.node(h).A); !slices.Equal(got, sorted(held)) || a.M != number || after.node(h).B != number {
				t.Fatalf("P16.10: %d slots: %+v: %v, want %v", slots, a, got, held)
			}
		}
	}
	if errs[api.OK] < 100 || errs[noRoom] < 100 || errs[notThere] < 1 {
		t.Errorf("the pools are too plain: %v", errs)
	}
}

// Calls done one behind the other, each with all its lines, by a worker of a run and alone.
func TestOneBehindTheOther(t *testing.T) {
	for _, alone := range []bool{false, true} {
		m := mixer(4)
		errs := map[api.Errno]int{}
		for range 300 {
			s := m.mixed(manners{}).s
			r, model := newReal(t, s), newModel(s)
			for range 30 {
				c := m.call(s, manners{wild: true, named: true})
				want := model.alone(c)
				var got api.Answer
				if alone {
					got = r.Do(nil, c)
					got.Own = want.Own
				} else {
					got = r.by(t, c)
				}
				if !sameAnswer(got, want) || got.Own != want.Own || !r.state().same(model.told()) {
					t.Fatalf("rule 10: %+v: %+v: %+v, %+v, want %+v, %+v", s, c, got, r.state(), want, model.told())
				}
				errs[got.Err]++
			}
		}
		for _, err := range []api.Errno{0, noCall, noKey, other, notThere, fails, noRoom, none, once, gone, isOut} {
			if errs[err] < 20 {
				t.Errorf("the calls are too plain: %v comes %d times", err, errs[err])
			}
		}
	}
}

// Calls by their names, by the workers of a run, with others that give back what parts have, and lay versions.
func TestByNameAgainstModel(t *testing.T) {
	takesLong(t)
	errs := map[api.Errno]int{}
	mixedPlays(800, manners{wild: true, named: true}, func(x mixed) {
		for _, answers := range wantFilm(t, "by name", x).run.Answers {
			for _, a := range answers {
				errs[a.Err]++
			}
		}
	})
	for _, err := range []api.Errno{0, noCall, noKey, other, notThere, busy, fails, noRoom, none, once, gone, noHandle, noWorker, isOut} {
		if errs[err] < 20 {
			t.Errorf("the cases are too plain: %v comes %d times", err, errs[err])
		}
	}
}

// A Many of so many pairs that it needs each slot several times.
func TestGreatMany(t *testing.T) {
	r := there(t, parts(1, 200))
	m := mixer(1)
	var list []api.Pair
	held := map[int]int{}
	puts := 0
	for range 20000 {
		x := api.Pair{Key: m.below(64) * (1 << 26), Value: m.below(3)}
		if is, ok := held[x.Key]; !ok || is != x.Value {
			puts++
		}
		held[x.Key] = x.Value
		list = append(list, x)
	}
	told, err := r.parts[0].Many(nil, list)
	if err != api.OK || told != (api.Told{Number: 2, New: true, Many: puts}) {
		t.Errorf("P16.4: %+v, %v, want %d Puts", told, err, puts)
	}
	s := r.state()
	if got := s.holds(s.node(s.versions[0][0]).A); !slices.Equal(got, sorted(held)) || s.used() != 2+2*64-1 || len(s.sets[0][0]) != 0 {
		t.Errorf("P16.4: %d slots in use, %v, want %v", s.used(), got, sorted(held))
	}
	// The same without room at its end: all goes back.
	list = append(list, api.Pair{Key: mostKey, Value: 1})
	for i := range 100 {
		list = append(list, api.Pair{Key: mostKey - 2*i, Value: 1})
	}
	if told, err := r.parts[0].Many(nil, list); err != noRoom || told != (api.Told{}) {
		t.Errorf("P16.4: %+v, %v", told, err)
	}
	if got := r.state(); got.used() != s.used() || !sameLists(got.versions, s.versions) || got.faults != 0 {
		t.Errorf("P16.4: %d slots in use, %d ahead of it", got.used(), s.used())
	}
}
