package chain_test

import (
	"fmt"
	"runtime"
	"slices"
	"testing"

	"skein/api"
	"skein/chain"
	"skein/clock"
	"skein/crew"
	"skein/pool"
)

// The handles of slots that were taken once.
var one, two, three, four = word(1, 1), word(2, 1), word(3, 1), word(4, 1)

// firstLines: those of a First that goes well, into slot i.
func firstLines(i, a int) []change { return lines(still(2), takes(i, a, 0), stamped(i, 1), leads(i)) }

// pushLines: those of a Push that goes well and settles its version by itself.
func pushLines(i, a, old, stamp int, set ...int) []change {
	return lines(still(2), takes(i, a, old, set...), leads(i), still(2), stamped(i, stamp))
}

// vainLines: those of a Push of which another one was ahead.
func vainLines(i, a, old int, set ...int) []change {
	return lines(still(2), takes(i, a, old, set...), still(1), backLines(i))
}

// moveLines: those of a Take of the first lease, and its Release.
func moveLines(t int) []change {
	held := func(is int) change { return func(s *state) { s.leases[0] = is } }
	return lines(held(1), still(1), held(t+1), still(1), goesOn, held(0))
}

func TestExample(t *testing.T) {
	r := newReal(t, 9, 2)
	r.wantLines(t, "example", first(10), version(one), firstLines(1, 10))
	r.wantLines(t, "example", top(), newest(one, 1), still(2))
	r.wantLines(t, "example", pushOn(one, 20, 5, 6), version(two), pushLines(2, 20, one, 1, 5, 6))
	r.wantLines(t, "example: slot 3 is taken and given back", pushOn(one, 30, 7), bad(), vainLines(3, 30, one, 7))
	r.wantLines(t, "example", move(), moved(1), moveLines(1))
	r.wantLines(t, "example", top(), newest(two, 1), still(2))
	r.wantLines(t, "example", pushOn(two, 40), version(word(3, 3)), pushLines(3, 40, two, 2))
	r.wantLines(t, "example", at(1), version(two), still(4))
	r.wantLines(t, "example", at(0), failed(api.ErrChainNone), still(7))
	r.wantLines(t, "example", cutOf(two), cutting(one, 5, 6), lines(cutOffAt(1)))
	r.wantLines(t, "example: again", cutOf(two), cutting(0), still(1))
	r.wantLines(t, "example", at(0), failed(api.ErrChainNone), still(5))
}

func TestNew(t *testing.T) {
	for _, n := range []int{1, 2, 9, mostSlots} {
		for _, leases := range []int{1, 64} {
			r := newReal(t, n, leases)
			r.wantState(t, "P14.1", newState(n, leases))
			r.wants(t, "P14.1: no versions", top(), failed(api.ErrChainNone), 1)
			r.wants(t, "P14.1: no versions", at(highest), failed(api.ErrChainNone), 1)
			r.wantState(t, "P14.1: behind it", newState(n, leases))
		}
	}
}

// Over a pool that is in use already, and a clock that has gone on.
func TestNewOverWhatIsInUse(t *testing.T) {
	p, _ := pool.New(3)
	c, _ := clock.New(2)
	h, _ := p.Take(nil, api.Node{A: 7}, 9)
	c.Take(nil)
	c.Take(nil)
	x := chain.New(p, c)
	if len(x.Versions()) != 0 || len(x.Set(h)) != 0 {
		t.Errorf("P14.1: %v, %v", x.Versions(), x.Set(h))
	}
	v, err := x.First(nil, api.Node{A: 1})
	if v != two || err != api.OK {
		t.Errorf("P14.3: %d, %v", v, err)
	}
	if g, stamp, err := x.Top(nil); g != two || stamp != 1 || err != api.OK {
		t.Errorf("P14.3: the first stamp is 1, whatever is now: %d, %d, %v", g, stamp, err)
	}
	if g, ok, err := x.Push(nil, v, api.Node{}, nil); g != three || !ok || err != api.OK || p.Slots()[2].Mark != 3 {
		t.Errorf("P14.5: %d, %v, %v, %+v", g, ok, err, p.Slots())
	}
}

// A version's node is what was handed in, all of it.
func TestNodes(t *testing.T) {
	r := newReal(t, 3, 1)
	x, y := api.Node{A: 1, B: -2, C: highest, D: lowest}, api.Node{A: api.Poison, B: 0, C: 5, D: 6}
	h, _ := r.x.First(nil, x)
	g, _, _ := r.x.Push(nil, h, y, []int{1})
	a, _ := r.p.Read(nil, h)
	b, _ := r.p.Read(nil, g)
	if a != x || b != y {
		t.Errorf("P14.3, P14.5: %+v, %+v", a, b)
	}
}

func TestLinesOfFirst(t *testing.T) {
	r := newReal(t, 3, 1)
	r.wantLines(t, "P14.3", first(10), version(one), firstLines(1, 10))
	for range 2 {
		gen := r.p.Slots()[1].Gen
		r.wantLines(t, "P14.3: there is one", first(11), failed(api.ErrChainOnce), lines(still(2), takes(2, 11, 0), stamped(2, 1), still(1), backLines(2)))
		if r.p.Slots()[1].Gen != gen+2 {
			t.Errorf("P14.3: %+v", r.p.Slots())
		}
	}
	r.do(t, pushOn(one, 20), pushOn(two+4, 30))
	r.wantLines(t, "P14.3: the pool is full", first(12), failed(api.ErrPoolFull), still(1))
	full := newReal(t, 1, 1).do(t, slot(5, 0))
	full.wantLines(t, "P14.3: the pool is full, there is none", first(12), failed(api.ErrPoolFull), still(1))
	full.wants(t, "P14.3: nothing has changed", top(), failed(api.ErrChainNone), 1)
}

// Behind a cut chain, too, there is a first version: the head isn't 0.
func TestFirstBehindACut(t *testing.T) {
	r := after(t, first(1), pushOn(one, 2), cutOf(two))
	r.wants(t, "P14.3: behind a Cut", first(3), failed(api.ErrChainOnce), 9)
	// A Push upon 0 lays a first one, too.
	r = after(t, pushOn(0, 5, 8))
	r.wants(t, "P14.3: behind a Push upon 0", first(3), failed(api.ErrChainOnce), 9)
}

// Two Firsts: whose cas comes first has it, whoever began.
func TestTwoFirsts(t *testing.T) {
	for lines := range 6 {
		r := newReal(t, 3, 1)
		a, others := r.broken(t, first(1), lines, first(2))
		good, vain := a, others[0]
		if lines < 5 {
			good, vain = others[0], a
		}
		if !good.Ok || !sameAnswer(vain, failed(api.ErrChainOnce)) || len(r.p.Free()) != 2 || len(r.x.Versions()) != 1 || r.x.Versions()[0] != good.N {
			t.Errorf("P14.3: broken off behind %d lines: %+v, %+v, %+v", lines, a, others, r.state())
		}
	}
}

func TestLinesOfTop(t *testing.T) {
	r := newReal(t, 9, 1)
	for range 2 {
		r.wantLines(t, "P14.4: no version", top(), failed(api.ErrChainNone), still(1))
	}
	r.do(t, first(10))
	r.wantLines(t, "P14.2: the stamp is there", top(), newest(one, 1), still(2))
	// Published, and not settled.
	r.do(t, move(), move()).halted(t, pushOn(one, 20), 4)
	r.wantLines(t, "P14.2: the cas is done", top(), newest(two, 3), lines(still(3), stamped(2, 3)))
	r.wantLines(t, "P14.2: the stamp is there", top(), newest(two, 3), still(2))
	r.do(t, move())
	r.wantLines(t, "P14.2: it is one number from then on", top(), newest(two, 3), still(2))
}

// Of two that settle one is done; who isn't tells the other one's stamp.
func TestTwoTops(t *testing.T) {
	for lines, want := range []struct{ stamp, own, other int }{{2, 2, 2}, {2, 2, 2}, {2, 5, 2}, {2, 5, 2}, {1, 4, 1}} {
		r := after(t, first(10)).halted(t, pushOn(one, 20), 4)
		a, others := r.broken(t, top(), lines, move(), top())
		if !sameAnswer(a, newest(two, want.stamp)) || a.Own != want.own || !sameAnswer(others[1], newest(two, want.other)) {
			t.Errorf("P14.2: broken off behind %d lines: %+v, %+v, want %+v", lines, a, others, want)
		}
	}
}

// now is loaded by settling's second line: what goes on behind that makes an elder stamp.
func TestSettlesWithWhatWasNow(t *testing.T) {
	for lines, stamp := range []int{3, 3, 3, 1, 1} {
		r := after(t, first(10)).halted(t, pushOn(one, 20), 4)
		a, _ := r.broken(t, top(), lines, move(), move())
		if !sameAnswer(a, newest(two, stamp)) || a.Own != 4 {
			t.Errorf("P14.2: now goes on behind %d lines: %+v, want stamp %d", lines, a, stamp)
		}
	}
	for lines, stamp := range []int{3, 3, 3, 3, 3, 3, 1, 1} {
		r := after(t, first(10))
		a, _ := r.broken(t, pushOn(one, 20), lines, move(), move())
		if !sameAnswer(a, version(two)) || a.Own != 7 || r.p.Slots()[1].Mark != stamp {
			t.Errorf("P14.2: now goes on behind %d lines of a Push: %+v, %+v, want stamp %d", lines, a, r.state(), stamp)
		}
	}
}

// What Top tells is what the head was at its first line, whatever is published behind that.
func TestTopBrokenOff(t *testing.T) {
	for lines, want := range []api.Answer{newest(two, 1), newest(one, 1), newest(one, 1)} {
		r := after(t, first(10))
		a, _ := r.broken(t, top(), lines, pushOn(one, 20))
		if !sameAnswer(a, want) || a.Own != 2 {
			t.Errorf("P14.4: broken off behind %d lines: %+v", lines, a)
		}
	}
	for lines := range 2 {
		r := newReal(t, 3, 1)
		a, _ := r.broken(t, top(), lines, first(10))
		if want := []api.Answer{newest(one, 1), failed(api.ErrChainNone)}[lines]; !sameAnswer(a, want) {
			t.Errorf("P14.4: broken off behind %d lines: %+v", lines, a)
		}
	}
}

// The first line of a Top, and of an At, is done when it is its turn, also where it isn't the first line of what a worker does.
func TestTopBehindAnotherLine(t *testing.T) {
	for _, call := range []api.Call{top(), at(highest)} {
		r := after(t, first(10))
		c := work([]api.Call{call}, []api.Call{pushOn(one, 20)})
		c.Turns = append([]int{0}, slices.Repeat([]int{1}, 7)...)
		run, err := crew.Run(c, does(func(w *crew.Worker, c api.Call) api.Answer {
			if w.Number() == 0 {
				w.Step()
			}
			return r.Do(w, c)
		}))
		if err != api.OK || run.Answers[0][0].N != two || run.Answers[0][0].Own != 3 {
			t.Errorf("P14.4: %+v: %+v, %v", call, run, err)
		}
	}
}

func TestLinesOfPush(t *testing.T) {
	r := newReal(t, 4, 1).do(t, first(10), move())
	r.wantLines(t, "P14.5", pushOn(one, 20, 3, 3, -1), version(two), pushLines(2, 20, one, 2, 3, 3, -1))
	r.wantLines(t, "P14.5: without a set", pushOn(two, 30), version(three), pushLines(3, 30, two, 2))
	r.wantLines(t, "P14.5: false", pushOn(two, 40, 9), bad(), vainLines(4, 40, two, 9))
	r.wantLines(t, "P14.5: false, without a set", pushOn(one, 40), bad(), vainLines(4, 40, one))
	r.wantLines(t, "P14.5", pushOn(three, 40, 1), version(word(4, 5)), pushLines(4, 40, three, 2, 1))
	r.wantLines(t, "P14.5: the pool is full", pushOn(word(4, 5), 50, 1), failed(api.ErrPoolFull), still(1))
	r.wantLines(t, "P14.5: the pool is full, old isn't the newest", pushOn(one, 50, 1), failed(api.ErrPoolFull), still(1))
}

// Others settle a Push's version ahead of it: its stamp is theirs.
func TestPushSettledByAnother(t *testing.T) {
	for lines, own := range []int{7, 7, 7, 7, 5, 8, 8, 7} {
		r := after(t, first(10))
		a, others := r.broken(t, pushOn(one, 20), lines, top())
		isPublished := lines >= 4
		if !sameAnswer(a, version(two)) || a.Own != own || isPublished != (others[0].N == two) {
			t.Errorf("P14.5: a Top behind %d lines: %+v, %+v, want %d lines", lines, a, others, own)
		}
	}
	r := after(t, first(10))
	a, others := r.broken(t, pushOn(one, 20), 6, move(), top())
	if !sameAnswer(a, version(two)) || a.Own != 8 || !sameAnswer(others[1], newest(two, 2)) || r.p.Slots()[1].Mark != 2 {
		t.Errorf("P14.5: settled by another one with a later stamp: %+v, %+v", a, others)
	}
}

// A Push of which another one's cas comes ahead is false; its slot is free again, its set is gone.
func TestPushBrokenOff(t *testing.T) {
	for lines := range 8 {
		r := after(t, first(10))
		a, others := r.broken(t, pushOn(one, 20, 5), lines, pushOn(one, 30, 6))
		good, vain := a, others[0]
		if lines < 4 {
			good, vain = others[0], a
		}
		if !good.Ok || !sameAnswer(vain, bad()) || len(r.p.Free()) != 7 {
			t.Errorf("P14.5: broken off behind %d lines: %+v, %+v", lines, a, others)
		}
		set := []int{5}
		if lines < 4 {
			set = []int{6}
		}
		s := r.state()
		if !slices.Equal(s.versions, []int{good.N, one}) || !slices.Equal(r.x.Set(good.N), set) || s.slots[good.N>>40-1].Link != one {
			t.Errorf("P14.5: broken off behind %d lines: %+v", lines, s)
		}
	}
}

// old is a number as it comes: just the head's handle does.
func TestPushUponAnything(t *testing.T) {
	r := after(t, first(10), pushOn(one, 20))
	gone := r.by(t, slot(5, 0)).N
	r.do(t, give(gone))
	olds := append(noHandles(9), one, gone, word(3, 3), word(3, 5), word(2, 3), word(9, 1), two-1, two+1, -two)
	for _, old := range olds {
		r.wantLines(t, fmt.Sprintf("P14.5: upon %d", old), pushOn(old, 30, 4), bad(), vainLines(3, 30, old, 4))
		x := newReal(t, 2, 1)
		if old != 0 {
			x.wantLines(t, fmt.Sprintf("P14.5: no version, upon %d", old), pushOn(old, 30, 4), bad(), vainLines(1, 30, old, 4))
			x.wants(t, "P14.5: no version is there", top(), failed(api.ErrChainNone), 1)
		}
	}
	r.wants(t, "P14.5: the newest one", pushOn(two, 30), version(word(3, 3+2*len(olds))), 7)
}

// Upon 0 a Push lays the first version of a chain that has none; that one is settled with now.
func TestPushUponNothing(t *testing.T) {
	r := newReal(t, 3, 1).do(t, move(), move())
	r.wantLines(t, "P14.5: upon 0", pushOn(0, 5, 8, 9), version(one), pushLines(1, 5, 0, 3, 8, 9))
	r.wantLines(t, "P14.5: upon 0 again", pushOn(0, 6), bad(), vainLines(2, 6, 0))
	r.wantLines(t, "P14.7: no link, no set", cutOf(one), cutting(0), still(1))
	if !slices.Equal(r.x.Set(one), []int{8, 9}) {
		t.Errorf("P14.7: its set stays: %v", r.x.Set(one))
	}
	r.wants(t, "P14.6", at(2), failed(api.ErrChainNone), 3)
	r.wants(t, "P14.6", at(3), version(one), 2)
}

// tall: a chain of so many versions, and their stamps: 1, 2, 2, 3, 4, 4, 5, 6, 6, ..
func tall(t *testing.T, versions int) (real, []int) {
	t.Helper()
	r := newReal(t, versions+1, 1).do(t, first(0))
	stamps, h := []int{1}, one
	for i := 1; i < versions; i++ {
		if i%3 != 2 {
			r.c.Take(nil)
			r.c.Release(nil, 0)
		}
		g, ok, err := r.x.Push(nil, h, api.Node{A: i}, nil)
		if !ok || err != api.OK {
			t.Fatalf("P14.5: %v, %v", ok, err)
		}
		h = g
		stamps = append(stamps, r.c.Now(nil))
	}
	return r, stamps
}

// At goes back as long as stamps are above: so many lines for each version that it leaves behind.
func TestLinesOfAt(t *testing.T) {
	r, stamps := tall(t, 12)
	last := stamps[len(stamps)-1]
	for _, asked := range append(farStamps, -last, 1, 2, 3, 4, 5, 6, 7, 8, last-1, last, last+1, last+2) {
		above := 0
		for _, s := range stamps {
			if s > asked {
				above++
			}
		}
		if above == len(stamps) {
			r.wantLines(t, "P14.6: to the end", at(asked), failed(api.ErrChainNone), still(2+2*len(stamps)-1))
		} else {
			r.wantLines(t, "P14.6", at(asked), version(word(len(stamps)-above, 1)), still(2+2*above))
		}
	}
	one, _ := tall(t, 1)
	one.wantLines(t, "P14.6: the stamp itself", at(1), version(word(1, 1)), still(2))
	one.wantLines(t, "P14.6: one below it", at(0), failed(api.ErrChainNone), still(3))
}

// At settles the newest one, and that alone, ahead of looking at its stamp.
func TestAtSettles(t *testing.T) {
	for asked, want := range []struct {
		a     api.Answer
		lines []change
	}{
		{failed(api.ErrChainNone), lines(still(3), stamped(2, 2), still(3))},
		{version(one), lines(still(3), stamped(2, 2), still(2))},
		{version(two), lines(still(3), stamped(2, 2))},
		{version(two), lines(still(3), stamped(2, 2))},
	} {
		r := after(t, first(10), move()).halted(t, pushOn(one, 20), 4)
		r.wantLines(t, "P14.6: settles", at(asked), want.a, want.lines)
	}
	// An older one without a stamp (it got it taken) counts with 0.
	r := after(t, first(10), move(), pushOn(one, 20), mark(one, 1, 0))
	r.wantLines(t, "P14.6: pool.Mark is its stamp", at(0), version(one), still(4))
}

// The versions that At goes by are those of the line that asks for them.
func TestAtBrokenOff(t *testing.T) {
	for lines, want := range []struct {
		a   api.Answer
		own int
	}{{version(one), 6}, {version(one), 4}, {version(one), 4}, {version(one), 4}, {version(one), 4}} {
		r := after(t, first(10), move(), pushOn(one, 20))
		a, _ := r.broken(t, at(1), lines, pushOn(two, 30))
		if !sameAnswer(a, want.a) || a.Own != want.own {
			t.Errorf("P14.6: a Push behind %d lines: %+v, want %+v", lines, a, want)
		}
	}
	for lines, want := range []struct {
		a   api.Answer
		own int
	}{{failed(api.ErrChainNone), 3}, {failed(api.ErrChainNone), 3}, {failed(api.ErrChainNone), 3}, {version(one), 4}, {version(one), 4}} {
		r := after(t, first(10), move(), pushOn(one, 20))
		a, _ := r.broken(t, at(1), lines, cutOf(two))
		if !sameAnswer(a, want.a) || a.Own != want.own {
			t.Errorf("P14.6: a Cut behind %d lines: %+v, want %+v", lines, a, want)
		}
	}
}

func TestLinesOfCut(t *testing.T) {
	r := after(t, first(10), pushOn(one, 20, 1, 2), pushOn(two, 30), pushOn(three, 40, 3))
	r.wantLines(t, "P14.7: the last version", cutOf(one), cutting(0), still(1))
	r.wantLines(t, "P14.7: an empty set", cutOf(three), cutting(two), lines(cutOffAt(1)))
	r.wantLines(t, "P14.7: a second time", cutOf(three), cutting(0), still(1))
	// What was cut off is there still, and can be cut itself.
	r.wantLines(t, "P14.7: what was cut off", cutOf(two), cutting(one, 1, 2), lines(func(s *state) { s.slots[1].Link, s.sets[1] = 0, nil }))
	r.wantLines(t, "P14.7: a second time", cutOf(two), cutting(0), still(1))
	r.wantLines(t, "P14.7: the newest one", cutOf(four), cutting(three, 3), lines(cutOffAt(0)))
	r.wantLines(t, "P14.7: a second time", cutOf(four), cutting(0), still(1))
	for _, h := range noHandles(9) {
		r.wantLines(t, "P14.7: no handle", cutOf(h), failed(api.ErrPoolHandle), still(1))
	}
	for _, h := range []int{word(5, 1), word(1, 3), word(2, 5)} {
		r.wantLines(t, "P14.7: no handle of this generation", cutOf(h), failed(api.ErrPoolGone), lines(faulty))
	}
	r.do(t, give(two))
	r.wantLines(t, "P14.7: given back", cutOf(two), failed(api.ErrPoolGone), lines(faulty))
	r.do(t, slot(1, 77))
	r.wantLines(t, "P14.7: given back, and taken again", cutOf(two), failed(api.ErrPoolGone), lines(faulty))
	r.wantLines(t, "P14.7: no version, but a slot with a link", cutOf(word(2, 3)), cutting(77), lines(func(s *state) { s.slots[1].Link = 0 }))
}

// Two Cuts of one version: one is told its link and its set.
func TestTwoCuts(t *testing.T) {
	for lines := range 2 {
		r := after(t, first(10), pushOn(one, 20, 1, 2))
		a, others := r.broken(t, cutOf(two), lines, cutOf(two))
		told, not := a, others[0]
		if lines == 0 {
			told, not = others[0], a
		}
		if !sameAnswer(told, cutting(one, 1, 2)) || !sameAnswer(not, cutting(0)) {
			t.Errorf("P14.12: %+v, %+v", a, others)
		}
	}
}

// An error of the pool ends settling, at whichever of its lines; the version stays the newest one.
func TestSettlingThatFails(t *testing.T) {
	for lines, own := range []int{2, 2, 4, 4} {
		for _, call := range []api.Call{top(), at(5)} {
			r := after(t, first(10)).halted(t, pushOn(one, 20), 4)
			a, _ := r.broken(t, call, lines, give(two))
			if !sameAnswer(a, failed(api.ErrPoolGone)) || a.Own != own || r.p.Faults() != 1 {
				t.Errorf("P14.2: given back behind %d lines: %+v, %d faults", lines, a, r.p.Faults())
			}
			r.wants(t, "P14.2: it is the newest one still", top(), failed(api.ErrPoolGone), 2)
			r.wants(t, "P14.2: it is the newest one still", first(1), failed(api.ErrChainOnce), 9)
		}
	}
	for lines, own := range []int{5, 7, 7} {
		r := after(t, first(10))
		a, _ := r.broken(t, pushOn(one, 20, 6), 4+lines, give(two))
		if !sameAnswer(a, failed(api.ErrPoolGone)) || a.Own != own {
			t.Errorf("P14.5: given back behind %d lines of settling: %+v", lines, a)
		}
		r.wants(t, "P14.5: the version stays", top(), failed(api.ErrPoolGone), 2)
		if len(r.x.Versions()) != 0 || len(r.x.Set(two)) != 0 {
			t.Errorf("P14.8: a slot that was given back: %v, %v", r.x.Versions(), r.x.Set(two))
		}
		// As a number it does for the next Push; behind that At finds what was given back.
		r.do(t, move())
		r.wants(t, "P14.5: upon it", pushOn(two, 30), version(word(2, 3)), 7)
		r.wants(t, "P14.6: pool.Mark's error", at(1), failed(api.ErrPoolGone), 4)
	}
}

// The fourth line of settling: another one's cas was done, and then the slot was given back.
func TestSettlingThatFailsAtItsLastLine(t *testing.T) {
	r := after(t, first(10)).halted(t, pushOn(one, 20), 4)
	c := work([]api.Call{top()}, []api.Call{top(), give(two)})
	c.Turns = []int{0, 0, 0, 1, 1, 1, 1, 0, 1, 1, 1, 1, 0}
	run, err := crew.Run(c, r)
	if err != api.OK || len(run.Answers[0]) != 1 || !sameAnswer(run.Answers[0][0], failed(api.ErrPoolGone)) || run.Answers[0][0].Own != 5 {
		t.Errorf("P14.2: %+v, %v", run, err)
	}
	if !sameAnswer(run.Answers[1][0], newest(two, 1)) {
		t.Errorf("P14.2: %+v", run)
	}
}

// Errors of the pool on At's way, of each of its calls.
func TestAtMeetsWhatIsNone(t *testing.T) {
	base := []api.Call{first(10), move(), pushOn(one, 20), move(), pushOn(two, 30)}
	r := after(t, base...).do(t, give(one))
	r.wantLines(t, "P14.6: Mark of what was given back", at(1), failed(api.ErrPoolGone), lines(still(5), faulty))
	r.wantLines(t, "P14.6: not so far", at(2), version(two), still(4))
	for _, h := range noHandles(9) {
		r := after(t, base...)
		r.p.SwapLink(nil, two, h)
		if h == 0 {
			r.wantLines(t, "P14.6: a link of 0", at(1), failed(api.ErrChainNone), still(5))
			continue
		}
		r.wantLines(t, "P14.6: a link that is no handle", at(1), failed(api.ErrPoolHandle), still(6))
		if !slices.Equal(r.x.Versions(), []int{three, two}) {
			t.Errorf("P14.8: a link that is no handle: %v", r.x.Versions())
		}
	}
	for lines, own := range []int{4, 4, 4, 4, 5, 6, 6} {
		r := after(t, base...)
		a, _ := r.broken(t, at(1), lines, give(two))
		want := failed(api.ErrPoolGone)
		if lines >= 5 {
			want = version(one)
		}
		if !sameAnswer(a, want) || a.Own != own {
			t.Errorf("P14.6: given back behind %d lines: %+v, want %+v in %d lines", lines, a, want, own)
		}
	}
}

// A slot that somebody else gives back while a First or a Push has it in hand.
func TestGivenBackInTheMidst(t *testing.T) {
	r := newReal(t, 2, 1)
	a, _ := r.broken(t, first(1), 3, give(one))
	if !sameAnswer(a, failed(api.ErrPoolGone)) || a.Own != 4 || r.p.Faults() != 1 || len(r.p.Free()) != 2 {
		t.Errorf("P14.3: CasMark's error: %+v, %+v", a, r.state())
	}
	r.wants(t, "P14.3: no version", top(), failed(api.ErrChainNone), 1)
	r = after(t, first(1))
	a, _ = r.broken(t, first(2), 5, give(two))
	if !sameAnswer(a, failed(api.ErrChainOnce)) || a.Own != 6 || len(r.p.Free()) != 8 {
		t.Errorf("P14.3: %+v, %+v", a, r.state())
	}
	r = after(t, first(1))
	a, _ = r.broken(t, pushOn(0, 2, 5), 4, give(two))
	if !sameAnswer(a, bad()) || a.Own != 5 || len(r.p.Free()) != 8 {
		t.Errorf("P14.5: %+v, %+v", a, r.state())
	}
}

// Whoever marks a First's slot ahead of it: that is its stamp.
func TestFirstThatIsMarked(t *testing.T) {
	r := newReal(t, 2, 1)
	a, _ := r.broken(t, first(1), 3, mark(one, 0, 4))
	if !sameAnswer(a, version(one)) || a.Own != 5 {
		t.Errorf("P14.3: %+v", a)
	}
	r.wants(t, "P14.4", top(), newest(one, 4), 2)
}

// A settling's fourth line tells what the mark is then, whatever that is.
func TestSettlesWithWhatIsThere(t *testing.T) {
	r := after(t, first(10)).halted(t, pushOn(one, 20), 4)
	a, _ := r.broken(t, top(), 3, mark(two, 0, 9))
	if !sameAnswer(a, newest(two, 9)) || a.Own != 5 {
		t.Errorf("P14.2: %+v", a)
	}
}

func TestVersions(t *testing.T) {
	r := newReal(t, 40, 1).do(t, first(1))
	want, h := []int{one}, one
	for i := range 39 {
		h = r.by(t, pushOn(h, i)).N
		want = append([]int{h}, want...)
		if got := r.x.Versions(); !slices.Equal(got, want) {
			t.Fatalf("P14.8: %v, want %v", got, want)
		}
	}
	for _, n := range []int{30, 12, 0} {
		r.do(t, cutOf(want[n]))
		want = want[:n+1]
		if got := r.x.Versions(); !slices.Equal(got, want) {
			t.Fatalf("P14.8: behind a Cut: %v, want %v", got, want)
		}
	}
}

// Versions ends at a slot that isn't in use, or is in use by another handle; of such ones there is no set.
func TestVersionsOfWhatWasGivenBack(t *testing.T) {
	base := []api.Call{first(10), pushOn(one, 20, 5), pushOn(two, 30, 6)}
	for given, left := range [][]int{{three, two}, {three}, {}} {
		r := after(t, base...).do(t, give(word(given+1, 1)))
		if got := r.x.Versions(); !slices.Equal(got, left) || len(r.x.Set(word(given+1, 1))) != 0 {
			t.Errorf("P14.8: slot %d given back: %v, %v", given+1, got, r.x.Set(word(given+1, 1)))
		}
		again := r.by(t, slot(9, 0)).N
		if again != word(given+1, 3) {
			t.Fatalf("pool.Take: %d", again)
		}
		if got := r.x.Versions(); !slices.Equal(got, left) || len(r.x.Set(word(given+1, 1))) != 0 || len(r.x.Set(again)) != 0 {
			t.Errorf("P14.8: slot %d taken again: %v", given+1, got)
		}
		if r.p.Faults() != 0 {
			t.Errorf("P14.8: %d faults", r.p.Faults())
		}
	}
}

// Links that somebody made a ring of: not more than there are slots are told, and At ends.
func TestRings(t *testing.T) {
	for _, n := range []int{1, 2, 3, 7} {
		r := newReal(t, n, 1).do(t, first(1))
		h := one
		for i := 1; i < n; i++ {
			h = r.by(t, pushOn(h, i)).N
		}
		r.do(t, link(one, h))
		if got := r.x.Versions(); len(got) != n || got[0] != h || got[n-1] != one {
			t.Errorf("P14.8: a ring of %d: %v", n, got)
		}
		r.do(t, link(h, h))
		if got := r.x.Versions(); !slices.Equal(got, slices.Repeat([]int{h}, n)) {
			t.Errorf("P14.8: a ring of one, of %d slots: %v", n, got)
		}
		if g, err := r.x.At(nil, 0); g != 0 || err != api.ErrChainNone {
			t.Errorf("rule 1: At in a ring: %d, %v", g, err)
		}
		if g, err := r.x.At(nil, 1); g != h || err != api.OK {
			t.Errorf("P14.6: At in a ring: %d, %v", g, err)
		}
	}
}

// The greatest chain: all slots of the greatest pool.
func TestGreatestChain(t *testing.T) {
	r, stamps := tall(t, mostSlots-1)
	h, _, err := r.x.Top(nil)
	if err != api.OK || h != word(mostSlots-1, 1) {
		t.Fatalf("P14.4: %d, %v", h, err)
	}
	if g, ok, err := r.x.Push(nil, h, api.Node{}, []int{5}); !ok || err != api.OK || g != word(mostSlots, 1) {
		t.Fatalf("P14.5: %d, %v, %v", g, ok, err)
	}
	if _, _, err := r.x.Push(nil, word(mostSlots, 1), api.Node{}, nil); err != api.ErrPoolFull {
		t.Errorf("P14.5: %v", err)
	}
	list := r.x.Versions()
	if len(list) != mostSlots || list[mostSlots-1] != one || !slices.Equal(r.x.Set(list[0]), []int{5}) {
		t.Errorf("P14.8: %d versions", len(list))
	}
	stamps = append(stamps, r.c.Now(nil))
	for _, i := range []int{0, 1, 2, 3, 1000, 2000, mostSlots - 2, mostSlots - 1} {
		for i+1 < len(stamps) && stamps[i+1] == stamps[i] {
			i++
		}
		if g, err := r.x.At(nil, stamps[i]); g != word(i+1, 1) || err != api.OK {
			t.Errorf("P14.6: At(%d): %d, %v, want slot %d", stamps[i], g, err, i+1)
		}
	}
	if g, err := r.x.At(nil, 0); g != 0 || err != api.ErrChainNone {
		t.Errorf("P14.6: At(0): %d, %v", g, err)
	}
}

func TestSets(t *testing.T) {
	long := make([]int, 100000)
	for i := range long {
		long[i] = i * i
	}
	r := newReal(t, 9, 1).do(t, first(1))
	h := one
	for _, set := range [][]int{nil, {}, {0}, {lowest}, {5, 5, 5}, {highest, -1, 0, lowest}, long} {
		g, ok, err := r.x.Push(nil, h, api.Node{}, set)
		if !ok || err != api.OK || !slices.Equal(r.x.Set(g), set) {
			t.Fatalf("P14.8: Set of %d numbers: %d", len(set), len(r.x.Set(g)))
		}
		h = g
	}
	for _, set := range [][]int{long, {highest, -1, 0, lowest}, {5, 5, 5}, {lowest}, {0}, {}, nil} {
		g, got, err := r.x.Cut(nil, h)
		if err != api.OK || g == 0 || !slices.Equal(got, set) || len(r.x.Set(h)) != 0 {
			t.Fatalf("P14.7: the set of %d numbers: %d, %v", len(set), len(got), err)
		}
		h = g
	}
	if g, set, err := r.x.Cut(nil, h); g != 0 || len(set) != 0 || err != api.OK {
		t.Errorf("P14.7: the first one: %d, %v, %v", g, set, err)
	}
	for _, h := range append(noHandles(9), word(9, 1), word(1, 3), word(2, 5)) {
		if set := r.x.Set(h); len(set) != 0 {
			t.Errorf("P14.8: Set(%d): %v", h, set)
		}
	}
}

// A set is a version's, not its slot's: whoever has the slot next has none of it.
func TestSetsOfSlotsThatComeBack(t *testing.T) {
	for _, next := range []api.Call{slot(1, 0), first(1), pushOn(0, 1)} {
		r := newReal(t, 1, 1)
		r.wants(t, "P14.5", pushOn(7, 1, 5, 6), bad(), 8)
		r.do(t, next)
		if set := r.x.Set(word(1, 3)); len(set) != 0 {
			t.Errorf("P14.5: behind a Push that was false, %+v: %v", next, set)
		}
	}
	// A version that was given back with its set.
	for _, next := range []api.Call{slot(1, 0), pushOn(one, 1)} {
		r := newReal(t, 2, 1).do(t, first(1), pushOn(one, 2, 5, 6))
		if next.Kind == kindPushOn {
			next.A = two
		}
		r.do(t, give(two), next)
		if set := r.x.Set(word(2, 3)); len(set) != 0 {
			t.Errorf("P14.8: behind a version with a set, %+v: %v", next, set)
		}
		if set := r.x.Set(two); len(set) != 0 {
			t.Errorf("P14.8: of a slot that was given back: %v", set)
		}
	}
}

// Two chains over one pool and one clock have no more in common than these.
func TestChainsDoNotTouch(t *testing.T) {
	r := newReal(t, 9, 1).do(t, first(1), pushOn(one, 2, 5))
	o := real{chain.New(r.p, r.c), r.p, r.c, new([8]int)}
	o.do(t, first(3), pushOn(three, 4, 6), move())
	if !slices.Equal(r.x.Versions(), []int{two, one}) || !slices.Equal(o.x.Versions(), []int{four, three}) {
		t.Errorf("rule 6: %v, %v", r.x.Versions(), o.x.Versions())
	}
	if len(o.x.Set(two)) != 0 || len(r.x.Set(four)) != 0 || !slices.Equal(r.x.Set(two), []int{5}) || !slices.Equal(o.x.Set(four), []int{6}) {
		t.Errorf("rule 6: %v, %v", o.x.Set(two), r.x.Set(four))
	}
	o.wants(t, "rule 6: the link is the slot's, the set is the other chain's", cutOf(two), cutting(one), 1)
	if !slices.Equal(r.x.Set(two), []int{5}) {
		t.Errorf("rule 6: %v", r.x.Set(two))
	}
	r.do(t, pushOn(two, 7))
	if stamp := r.p.Slots()[4].Mark; stamp != 2 {
		t.Errorf("P14.2: one clock: %d", stamp)
	}
}

// writeOver writes into a list and all the spare room behind it.
func writeOver(list []int) {
	list = list[:cap(list)]
	for i := range list {
		list[i] = -99
	}
}

// roomy copies a list into one with spare room, in which something stands.
func roomy(list []int) []int {
	room := append(slices.Clone(list), 71, 72, 73)
	return room[:len(list)]
}

// untouched tells whether a roomy list is as it was.
func untouched(list, was []int) bool {
	return slices.Equal(list, was) && slices.Equal(list[:len(list)+3][len(list):], []int{71, 72, 73})
}

func TestListsAreTheirOwnersOwn(t *testing.T) {
	for _, n := range []int{0, 1, 2, 3, 5, 8, 33, 100} {
		r := newReal(t, 9, 1).do(t, first(1))
		set := upTo(n)
		given := roomy(set)
		g, _, _ := r.x.Push(nil, one, api.Node{}, given)
		if !untouched(given, set) {
			t.Fatalf("rule 3: Push changed what was handed in: %v", given)
		}
		writeOver(given)
		_ = append(given, -98)
		if got := r.x.Set(g); !slices.Equal(got, set) {
			t.Fatalf("rule 3: a set hangs on what was handed in: %v", got)
		}
		a, b := r.x.Set(g), r.x.Set(g)
		v, w := r.x.Versions(), r.x.Versions()
		writeOver(a)
		writeOver(v)
		if got := r.x.Set(g); !slices.Equal(got, set) || !slices.Equal(b, set) || !slices.Equal(w, []int{two, one}) || !slices.Equal(r.x.Versions(), w) {
			t.Fatalf("rule 3: lists that were told share memory: %v, %v, %v", got, b, w)
		}
		h, c, _ := r.x.Cut(nil, g)
		if h != one || !slices.Equal(c, set) {
			t.Fatalf("P14.7: %d, %v", h, c)
		}
		writeOver(c)
		if !slices.Equal(b, set) || len(r.x.Set(g)) != 0 {
			t.Fatalf("rule 3: behind a Cut: %v, %v", b, r.x.Set(g))
		}
		// A set that is false's isn't kept either, nor touched.
		given = roomy(set)
		r.x.Push(nil, one, api.Node{}, given)
		if !untouched(given, set) {
			t.Fatalf("rule 3: a Push that was false changed what was handed in: %v", given)
		}
	}
}

// An answer that was told stays as it is, whatever is done behind it.
func TestAnswersStay(t *testing.T) {
	r := after(t, first(1), pushOn(one, 2, 1, 2, 3))
	versions, set := r.x.Versions(), r.x.Set(two)
	_, cut, _ := r.x.Cut(nil, two)
	r.do(t, pushOn(two, 3, 9, 9, 9), pushOn(three, 4, 8, 8, 8), cutOf(three), give(two), slot(5, 5), pushOn(four, 6, 7, 7, 7))
	if !slices.Equal(versions, []int{two, one}) || !slices.Equal(set, []int{1, 2, 3}) || !slices.Equal(cut, []int{1, 2, 3}) {
		t.Errorf("rule 3: %v, %v, %v", versions, set, cut)
	}
}

// Versions and Set do no line, and no fault is counted by them.
func TestLooksHaveNoLine(t *testing.T) {
	r := after(t, first(1), pushOn(one, 2, 5), give(one)).halted(t, pushOn(two, 3, 6), 4)
	was := r.p.Slots()
	var versions, set []int
	run, err := crew.Run(work([]api.Call{{}}), does(func(w *crew.Worker, _ api.Call) api.Answer {
		for range 10 {
			versions, set = r.x.Versions(), r.x.Set(two)
			r.x.Set(one)
		}
		w.Step()
		w.Step()
		return api.Answer{}
	}))
	if err != api.OK || run.Steps != 2 || !slices.Equal(versions, []int{word(1, 3), two}) || !slices.Equal(set, []int{5}) {
		t.Errorf("P14.8: %+v, %v, %v, %v", run, versions, set, err)
	}
	if !slices.Equal(r.p.Slots(), was) || r.p.Faults() != 0 {
		t.Errorf("P14.8: Versions and Set settle nothing: %+v", r.state())
	}
}

// Calls done one behind the other, each with all its lines, by a worker of a run and alone.
func TestOneBehindTheOther(t *testing.T) {
	for _, alone := range []bool{false, true} {
		m := mixer(4)
		errs := map[api.Errno]int{}
		for range 250 {
			n, leases := 1+m.below(8), 1+m.below(3)
			r, model := newReal(t, n, leases), newModel(n, leases)
			for range 40 {
				c := m.call(n, manners{wild: true, named: true})
				want := model.alone(c)
				var got api.Answer
				if alone {
					got = r.Do(nil, c)
					got.Own = want.Own
				} else {
					got = r.by(t, c)
				}
				if !sameAnswer(got, want) || got.Own != want.Own || !r.state().same(model.told()) {
					t.Fatalf("rule 10: %+v: %+v, %+v, want %+v, %+v", c, got, r.state(), want, model.told())
				}
				errs[got.Err]++
			}
		}
		for _, err := range []api.Errno{0, 102, 103, 104, 132, 133, 140, 141, 142} {
			if errs[err] < 20 {
				t.Errorf("the calls are too plain: %v comes %d times", err, errs[err])
			}
		}
	}
}

// Calls by their names, by the workers of a run, with others that give back and mark what the chain has.
func TestByNameAgainstModel(t *testing.T) {
	errs := map[api.Errno]int{}
	pushes, late := 0, 0
	mixedPlays(3000, manners{wild: true, named: true}, func(x mixed) {
		run, _ := wantNamed(t, "by name", x)
		for k, answers := range run.Answers {
			for i, a := range answers {
				errs[a.Err]++
				if kind := x.c.Work[k][i].Kind; kind == 3 || kind == kindPushOn {
					if a.Ok {
						pushes++
					} else if a.Err == api.OK {
						late++
					}
				}
			}
		}
	})
	for _, err := range []api.Errno{0, 102, 103, 104, 132, 133, 140, 141, 142} {
		if errs[err] < 100 {
			t.Errorf("the cases are too plain: %v comes %d times", err, errs[err])
		}
	}
	if pushes < 500 || late < 500 {
		t.Errorf("the cases are too plain: %d Pushes, %d that were false", pushes, late)
	}
}

// What isn't a version's any more isn't kept: neither what a Cut told, nor what a Push that was false was given.
func TestNothingIsKept(t *testing.T) {
	const size, most = 1 << 20, 1 << 20
	heap := func() int {
		runtime.GC()
		var m runtime.MemStats
		runtime.ReadMemStats(&m)
		return int(m.HeapAlloc)
	}
	r := newReal(t, 9, 1).do(t, first(1))
	before := heap()
	r.x.Push(nil, 7, api.Node{}, make([]int, size))
	if more := heap() - before; more > most {
		t.Errorf("rule 8 of the language: a Push that was false keeps %d bytes", more)
	}
	r.x.Push(nil, one, api.Node{}, make([]int, size))
	r.x.Cut(nil, word(2, 3))
	if more := heap() - before; more > most {
		t.Errorf("rule 8 of the language: behind a Cut %d bytes are kept", more)
	}
	runtime.KeepAlive(r)
}
