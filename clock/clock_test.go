package clock_test

import (
	"fmt"
	"slices"
	"testing"

	"skein/api"
	"skein/clock"
	"skein/crew"
)

func TestFirstExample(t *testing.T) {
	r := newReal(t, 2)
	r.wants(t, "example 1", take(0), took(0, 1), 5, moment(2, 2, 0))
	r.wants(t, "example 1", take(0), took(1, 2), 6, moment(3, 2, 3))
	r.wants(t, "example 1", take(0), failed(api.ErrClockLeases), 2, moment(3, 2, 3))
	r.wants(t, "example 1", least(), counted(1), 3, moment(3, 2, 3))
	r.wants(t, "example 1", free(0), good(), 1, moment(3, 0, 3))
	r.wants(t, "example 1", free(0), failed(api.ErrClockLease), 1, moment(3, 0, 3))
	r.wants(t, "example 1", least(), counted(2), 3, moment(3, 0, 3))
	r.wants(t, "example 1", take(0), took(0, 3), 5, moment(4, 4, 3))
}

// film does a case over a clock, by names; it tells what there is behind each step.
func (r real) film(t *testing.T, c api.Case) (api.Run, []state) {
	t.Helper()
	var list []state
	n := len(c.Work)
	spy := does(func(w *crew.Worker, call api.Call) api.Answer {
		if w.Number() < n {
			return r.Do(w, call)
		}
		list = append(list, r.state())
		return api.Answer{}
	})
	var turns []int
	for _, k := range c.Turns {
		turns = append(turns, k, n)
	}
	c.Work = append(slices.Clone(c.Work), make([]api.Call, len(c.Turns)))
	c.Turns = turns
	run, err := crew.Run(c, spy)
	if err != api.OK || run.Cut || run.Steps != len(turns) {
		t.Fatalf("%+v: %+v, %v", c, run, err)
	}
	return run, list
}

func TestSecondExample(t *testing.T) {
	r := newReal(t, 2)
	run, list := r.film(t, api.Case{
		// Each worker has a call at the end that nobody does till then: so all turns tell workers by their numbers.
		Work:  [][]api.Call{{take(0), now()}, {take(0), now()}},
		Turns: []int{0, 0, 0, 1, 1, 1, 1, 1, 1, 0, 0, 0, 0, 1, 0},
	})
	first := moment(1, 0, 0)
	want := []state{
		first.with(0, 1), first.with(0, 1), first.with(0, 2),
		moment(1, 2, 0), moment(1, 2, 1), moment(1, 2, 1), moment(1, 2, 2), moment(1, 2, 2), moment(2, 2, 2),
		moment(2, 2, 2), moment(2, 3, 2), moment(2, 3, 2), moment(3, 3, 2),
		moment(3, 3, 2), moment(3, 3, 2),
	}
	for i := range want {
		if !list[i].same(want[i]) {
			t.Errorf("example 2: behind step %d: %+v, want %+v", i+1, list[i], want[i])
		}
	}
	if a, b := run.Answers[0][0], run.Answers[1][0]; !sameAnswer(a, took(0, 2)) || a.Own != 7 || !sameAnswer(b, took(1, 1)) || b.Own != 6 {
		t.Errorf("example 2: %+v", run)
	}
}

func TestThirdExample(t *testing.T) {
	r := newReal(t, 2)
	run, list := r.film(t, api.Case{
		Work:  [][]api.Call{{take(0), now()}, {least(), now()}},
		Turns: []int{0, 1, 1, 1, 0, 0, 0, 0, 1, 0},
	})
	if !list[0].same(moment(1, 1, 0)) || !sameAnswer(run.Answers[1][0], counted(0)) || !sameAnswer(run.Answers[0][0], took(0, 1)) {
		t.Errorf("example 3: %+v, %+v", run, list)
	}
}

func TestNew(t *testing.T) {
	for _, n := range noSizes {
		if c, err := clock.New(n); err != api.ErrClockMany || c != nil {
			t.Errorf("P13.1: New(%d): %v, %v", n, c, err)
		}
	}
	for n := 1; n <= most; n++ {
		r := newReal(t, n)
		s := moment(1, make([]int, n)...)
		r.wantState(t, fmt.Sprintf("P13.1: New(%d)", n), s)
		for i := range n {
			s = s.with(i, i+2).at(i + 2)
			r.wants(t, "P13.1: so many leases", take(0), took(i, i+1), i+5, s)
		}
		r.wants(t, "P13.1: no more leases", take(0), failed(api.ErrClockLeases), n, s)
	}
}

// wantLines does a call and looks behind each of its lines.
func (r real) wantLines(t *testing.T, promise string, call api.Call, want api.Answer, moments ...state) {
	t.Helper()
	var seen []state
	// Two look, one behind the other, as a worker has few calls.
	looks := make([]api.Call, len(moments))
	c := work([]api.Call{call}, looks[:len(looks)/2], looks[len(looks)/2:])
	for range moments {
		c.Turns = append(c.Turns, 0, 1)
	}
	run, err := crew.Run(c, does(func(w *crew.Worker, c api.Call) api.Answer {
		if w.Number() == 0 {
			return r.Do(w, c)
		}
		seen = append(seen, r.state())
		return api.Answer{}
	}))
	if err != api.OK || run.Steps != 2*len(moments) || len(run.Answers[0]) != 1 {
		t.Fatalf("%s: %+v: %+v, %v", promise, call, run, err)
	}
	if a := run.Answers[0][0]; !sameAnswer(a, want) || a.Own != len(moments) {
		t.Errorf("%s: %+v: %+v, want %+v in %d lines", promise, call, a, want, len(moments))
	}
	for i, m := range moments {
		if !seen[i].same(m) {
			t.Errorf("%s: %+v: behind line %d: %+v, want %+v", promise, call, i+1, seen[i], m)
		}
	}
}

// same: a moment so many times.
func same(times int, s state) []state { return slices.Repeat([]state{s}, times) }

func TestLinesOfNow(t *testing.T) {
	r := newReal(t, 3)
	s := moment(1, 0, 0, 0)
	for i := range 3 {
		r.wantLines(t, "P13.2", now(), counted(i+1), s)
		r.takes(t, 1)
		s = s.with(i, i+2).at(i + 2)
	}
	r.wantLines(t, "P13.2: all are held", now(), counted(4), s)
	r.c.Release(nil, 1)
	r.wantLines(t, "P13.2: Release leaves it", now(), counted(4), s.with(1, 0))
}

// Each lease that isn't free costs a line, then there are four.
func TestLinesOfTake(t *testing.T) {
	for _, n := range []int{1, 2, 3, 8, most} {
		for taken := range min(n, 9) {
			r := newReal(t, n).takes(t, taken)
			s := r.state()
			claimed, held := s.with(taken, 1), s.with(taken, taken+2)
			moments := append(same(taken, s), claimed, claimed, held, held, held.at(taken+2))
			r.wantLines(t, "P13.3", take(0), took(taken, taken+1), moments...)
		}
		r := newReal(t, n).takes(t, n)
		s := r.state()
		for range 2 {
			r.wantLines(t, "P13.3: all are taken", take(0), failed(api.ErrClockLeases), same(n, s)...)
		}
		r.c.Release(nil, n-1)
		s = s.with(n-1, 0)
		claimed, held := s.with(n-1, 1), s.with(n-1, n+2)
		r.wantLines(t, "P13.3: the last one is free", take(0), took(n-1, n+1), append(same(n-1, s), claimed, claimed, held, held, held.at(n+2))...)
	}
}

// The first one that is free is taken, wherever it lies; stamps go on, whoever held it.
func TestTakeTakesTheFirst(t *testing.T) {
	const n = 6
	for set := range 1 << n {
		r := newReal(t, n).takes(t, n)
		s := r.state()
		var open []int
		for i := range n {
			if set>>i&1 == 1 {
				r.c.Release(nil, i)
				s = s.with(i, 0)
				open = append(open, i)
			}
		}
		for _, i := range open {
			stamp := s.now
			s = s.with(i, stamp+1).at(stamp + 1)
			r.wants(t, "P13.3: the first that is free", take(0), took(i, stamp), i+5, s)
		}
		r.wants(t, "P13.3: none is free", take(0), failed(api.ErrClockLeases), n, s)
	}
}

// broken does a call of worker 0, broken off behind so many lines by the others, which are worker 1's.
func (r real) broken(t *testing.T, call api.Call, at int, others ...api.Call) (api.Answer, []api.Answer) {
	t.Helper()
	c := work([]api.Call{call}, others)
	c.Turns = append(make([]int, at), slices.Repeat([]int{1}, 400)...)
	run, err := crew.Run(c, r)
	if err != api.OK || run.Cut || len(run.Answers[0]) != 1 || len(run.Answers[1]) != len(others) {
		t.Fatalf("%+v, broken off behind %d lines: %+v, %v", call, at, run, err)
	}
	return run.Answers[0][0], run.Answers[1]
}

// A Take that another one comes in between: by its second look it takes a later stamp; behind that its last line isn't done, and both have one stamp.
func TestTakeBrokenOff(t *testing.T) {
	for at, want := range []struct {
		a, other api.Answer
		own      int
		left     state
	}{
		{took(1, 2), took(0, 1), 6, moment(3, 2, 3, 0)},
		{took(0, 2), took(1, 1), 5, moment(3, 3, 2, 0)},
		{took(0, 2), took(1, 1), 7, moment(3, 3, 2, 0)},
		{took(0, 2), took(1, 1), 7, moment(3, 3, 2, 0)},
		{took(0, 1), took(1, 1), 5, moment(2, 2, 2, 0)},
		{took(0, 1), took(1, 2), 5, moment(3, 2, 3, 0)},
	} {
		r := newReal(t, 3)
		a, others := r.broken(t, take(0), at, take(0))
		if !sameAnswer(a, want.a) || a.Own != want.own || !sameAnswer(others[0], want.other) {
			t.Errorf("P13.3: broken off behind %d lines: %+v, %+v, want %+v", at, a, others, want)
		}
		r.wantState(t, fmt.Sprintf("P13.3: broken off behind %d lines", at), want.left)
		for _, x := range []api.Answer{a, others[0]} {
			r.wants(t, "P13.5: both are held", holdsSnap(x.N, x.M), good(), 1, want.left)
		}
	}
}

// Several stamps go by at once: the second look takes what is now then.
func TestTakeBrokenOffBySeveral(t *testing.T) {
	for goes := range 5 {
		r := newReal(t, 8)
		a, _ := r.broken(t, take(0), 3, slices.Repeat([]api.Call{take(0)}, goes)...)
		own := 7
		if goes == 0 {
			own = 5
		}
		if !sameAnswer(a, took(0, goes+1)) || a.Own != own || r.c.Now(nil) != goes+2 || r.c.Leases()[0] != goes+2 {
			t.Errorf("P13.3: %d Takes ahead of its second look: %+v, %+v", goes, a, r.state())
		}
	}
}

// A Take that goes back so many times: each time by two lines more.
func TestTakeGoesBackAgainAndAgain(t *testing.T) {
	for times := range 6 {
		const n = 8
		r := newReal(t, n)
		c := work([]api.Call{take(0)}, slices.Repeat([]api.Call{take(0)}, times))
		c.Turns = []int{0, 0, 0}
		for i := range times {
			c.Turns = append(c.Turns, slices.Repeat([]int{1}, i+6)...) // the other one's Take: it meets i + 1 leases that aren't free
			c.Turns = append(c.Turns, 0, 0)                            // the second look, and the store again
		}
		run, err := crew.Run(c, r)
		if err != api.OK || len(run.Answers[0]) != 1 {
			t.Fatalf("P13.3: %+v, %v", run, err)
		}
		if a := run.Answers[0][0]; !sameAnswer(a, took(0, times+1)) || a.Own != 5+2*times {
			t.Errorf("P13.3: back %d times: %+v", times, a)
		}
		s := moment(times+2, make([]int, n)...).with(0, times+2)
		for i := range times {
			s = s.with(i+1, i+2)
			if a := run.Answers[1][i]; !sameAnswer(a, took(i+1, i+1)) {
				t.Errorf("P13.3: back %d times: the other one's Take %d: %+v", times, i, a)
			}
		}
		r.wantState(t, "P13.3: back and back", s)
	}
}

// A lease that is let go ahead of a Take's line is met as a free one, behind that line it isn't.
func TestTakeMeets(t *testing.T) {
	for at := range 4 {
		r := newReal(t, 3).takes(t, 3)
		a, _ := r.broken(t, take(0), at, free(1))
		want, own := took(1, 4), 6
		if at >= 2 {
			want, own = failed(api.ErrClockLeases), 3
		}
		if !sameAnswer(a, want) || a.Own != own {
			t.Errorf("P13.3: a Release behind %d lines: %+v", at, a)
		}
	}
}

// Two Takes never take one lease: the cas is one line.
func TestTwoTakesOfOneLease(t *testing.T) {
	for at := range 6 {
		r := newReal(t, 1)
		a, others := r.broken(t, take(0), at, take(0))
		winner, loser, own := a, others[0], 5
		if at == 0 {
			winner, loser = others[0], a
		}
		if !sameAnswer(winner, took(0, 1)) || winner.Own != own || !sameAnswer(loser, failed(api.ErrClockLeases)) || loser.Own != 1 {
			t.Errorf("P13.3: broken off behind %d lines: %+v, %+v", at, a, others)
		}
		r.wantState(t, "P13.3: one lease", moment(2, 2))
	}
}

// A lease that is released while it is being taken: ahead of the store it is held all the same, behind that the Take answers what isn't held any more.
func TestReleaseOfWhatIsBeingTaken(t *testing.T) {
	for at, want := range []struct {
		err  api.Errno
		left state
	}{
		{api.ErrClockLease, moment(2, 2, 0)},
		{api.OK, moment(2, 2, 0)},
		{api.OK, moment(2, 2, 0)},
		{api.OK, moment(2, 0, 0)},
		{api.OK, moment(2, 0, 0)},
		{api.OK, moment(2, 0, 0)},
	} {
		r := newReal(t, 2)
		a, others := r.broken(t, take(0), at, free(0))
		if !sameAnswer(a, took(0, 1)) || a.Own != 5 || !sameAnswer(others[0], okAnswer(want.err)) {
			t.Errorf("P13.4: a Release behind %d lines of the Take: %+v, %+v", at, a, others)
		}
		r.wantState(t, fmt.Sprintf("P13.4: a Release behind %d lines of the Take", at), want.left)
		r.wants(t, "P13.5: behind it", holdsSnap(0, 1), api.Answer{Ok: want.left.leases[0] == 2}, 1, want.left)
	}
}

// Released while it is being taken it may be taken by another one, too: who stores last holds it.
func TestOneLeaseOfTwo(t *testing.T) {
	for at, want := range []struct {
		a    api.Answer
		own  int
		left state
	}{
		{took(1, 2), 6, moment(3, 2, 3)},
		{took(0, 2), 5, moment(3, 3, 0)},
		{took(0, 2), 7, moment(3, 3, 0)},
		{took(0, 2), 7, moment(3, 3, 0)},
		{took(0, 1), 5, moment(2, 2, 0)},
		{took(0, 1), 5, moment(3, 3, 0)},
	} {
		r := newReal(t, 2)
		a, others := r.broken(t, take(0), at, free(0), take(0))
		theirs := took(0, 1)
		if at == 5 {
			theirs = took(0, 2)
		}
		if !sameAnswer(a, want.a) || a.Own != want.own || !sameAnswer(others[1], theirs) {
			t.Errorf("P13.4: released and taken behind %d lines of the Take: %+v, %+v", at, a, others)
		}
		r.wantState(t, fmt.Sprintf("P13.4: released and taken behind %d lines of the Take", at), want.left)
	}
}

func TestLinesOfRelease(t *testing.T) {
	for _, n := range []int{1, 2, 5, most} {
		r := newReal(t, n)
		s := r.state()
		for i := range n {
			r.wantLines(t, "P13.4: a free one", free(i), failed(api.ErrClockLease), s)
		}
		r.takes(t, n)
		s = r.state()
		for _, i := range noLeases(n) {
			r.wants(t, "P13.4: no lease", free(i), failed(api.ErrClockLease), 1, s)
			r.wantLines(t, "P13.4: no lease", free(i), failed(api.ErrClockLease), s)
		}
		for _, i := range []int{n - 1, 0, n / 2} {
			want := okAnswer(api.OK)
			if s.leases[i] == 0 {
				want = failed(api.ErrClockLease)
			}
			s = s.with(i, 0)
			r.wantLines(t, "P13.4", free(i), want, s)
			r.wantLines(t, "P13.4: again", free(i), failed(api.ErrClockLease), s)
		}
	}
}

func TestHolds(t *testing.T) {
	for _, n := range []int{1, 3, most} {
		r := newReal(t, n)
		for i := range n {
			for _, stamp := range []int{lowest, lowest + 1, -2, -1, 0, 1, 2, highest - 1, highest} {
				r.wants(t, "P13.5: a free one", holdsSnap(i, stamp), bad(), 1, moment(1, make([]int, n)...))
			}
		}
		r.takes(t, n)
		s := r.state()
		for i := range n {
			r.wantLines(t, "P13.5", holdsSnap(i, i+1), good(), s)
			for _, stamp := range []int{lowest, lowest + 1, -1 << 32, -i - 1, -2, -1, 0, i, i + 2, i + 3, 1<<32 + i + 1, highest - 1, highest} {
				r.wantLines(t, "P13.5: another stamp", holdsSnap(i, stamp), bad(), s)
			}
		}
		for _, i := range noLeases(n) {
			for _, stamp := range []int{lowest, -1, 0, 1, n, highest} {
				r.wants(t, "P13.5: no lease", holdsSnap(i, stamp), bad(), 1, s)
			}
		}
		r.c.Release(nil, n-1)
		r.wants(t, "P13.5: released", holdsSnap(n-1, n), bad(), 1, s.with(n-1, 0))
		r.takes(t, 1)
		r.wants(t, "P13.5: taken again", holdsSnap(n-1, n), bad(), 1, s.with(n-1, n+2).at(n+2))
		r.wants(t, "P13.5: the new one", holdsSnap(n-1, n+1), good(), 1, s.with(n-1, n+2).at(n+2))
	}
}

// What is being taken isn't held ahead of the store, by no stamp; behind it it is by the stamp that was stored.
func TestHoldsWhileItIsBeingTaken(t *testing.T) {
	stamps := []int{lowest, -1, 0, 1, 2, 3, highest}
	var asked []api.Call
	for _, stamp := range stamps {
		asked = append(asked, holdsSnap(0, stamp))
	}
	for at := range 6 {
		_, others := newReal(t, 2).broken(t, take(0), at, asked...)
		for i, a := range others {
			if a.Ok != (at >= 3 && stamps[i] == 1) || a.Own != 1 {
				t.Errorf("P13.5: stamp %d behind %d lines of the Take: %+v", stamps[i], at, a)
			}
		}
	}
	// Behind a Take that goes back the elder stamp, that nobody was answered, isn't held any more.
	r := newReal(t, 2)
	c := work([]api.Call{take(0), now()}, []api.Call{take(0), holdsSnap(0, 1), holdsSnap(0, 2), holdsSnap(0, 1), holdsSnap(0, 2), now()})
	c.Turns = []int{0, 0, 0, 1, 1, 1, 1, 1, 1, 0, 1, 1, 0, 1, 1, 0, 0}
	run, err := crew.Run(c, r)
	if err != api.OK || len(run.Answers[1]) != 6 {
		t.Fatal(run, err)
	}
	for i, ok := range []bool{true, false, false, true} {
		if a := run.Answers[1][i+1]; a.Ok != ok {
			t.Errorf("P13.5: look %d at a Take that goes back: %+v", i, a)
		}
	}
}

func TestLinesOfLeast(t *testing.T) {
	for _, n := range []int{1, 2, 3, 8, most} {
		r := newReal(t, n)
		s := r.state()
		r.wantLines(t, "P13.6: none is held", least(), counted(1), same(n+1, s)...)
		r.takes(t, n)
		s = r.state()
		r.wantLines(t, "P13.6: all are held", least(), counted(1), same(n+1, s)...)
		for i := range n {
			r.c.Release(nil, i)
			s = s.with(i, 0)
			r.wantLines(t, "P13.6", least(), counted(i+2), same(n+1, s)...)
		}
		for range 3 {
			r.takes(t, 1)
			r.c.Release(nil, 0)
		}
		r.wantLines(t, "P13.6: none is held, but stamps went on", least(), counted(n+4), same(n+1, s.at(n+4))...)
	}
}

// The least one of those that are held, in whichever order they lie.
func TestLeastOfSeveral(t *testing.T) {
	m := mixer(8)
	for range 200 {
		n := 1 + m.below(6)
		r := newReal(t, n)
		held := make([]int, n) // by lease its stamp
		for stamp := 1; stamp < 30; {
			if i := m.below(n); m.below(2) == 0 && held[i] > 0 {
				r.c.Release(nil, i)
				held[i] = 0
			} else if i := slices.Index(held, 0); i >= 0 {
				r.takes(t, 1)
				held[i] = stamp
				stamp++
			}
			want := r.c.Now(nil)
			for _, stamp := range held {
				if stamp > 0 {
					want = min(want, stamp)
				}
			}
			if got := r.c.Least(nil); got != want {
				t.Fatalf("P13.6: Least with %v held: %d, want %d", held, got, want)
			}
		}
	}
}

// While one is being taken it is 0, whatever else is held, and wherever that one lies.
func TestLeastWhileOneIsBeingTaken(t *testing.T) {
	for _, n := range []int{1, 2, 5} {
		for i := range n {
			for lines := range 6 {
				r := newReal(t, n).takes(t, n)
				r.c.Release(nil, i)
				_, others := r.broken(t, take(0), i+lines, least())
				want := 1
				switch {
				case lines == 1 || lines == 2:
					want = 0
				case i == 0:
					want = 2 // stamp 1 was that one's
				}
				if !sameAnswer(others[0], counted(want)) || others[0].Own != n+1 {
					t.Errorf("P13.6: lease %d of %d, %d lines of its Take behind it: %+v, want %d", i, n, lines, others[0], want)
				}
			}
		}
	}
}

// Each lease is loaded by a line of its own, and now by the first one.
func TestLeastBrokenOff(t *testing.T) {
	for at, want := range []int{3, 1, 1, 1} {
		// now 1: what is taken and let go meanwhile counts for nothing, once now is loaded.
		a, _ := newReal(t, 2).broken(t, least(), at, take(0), free(0), take(0), free(0))
		if !sameAnswer(a, counted(want)) || a.Own != 3 {
			t.Errorf("P13.6: broken off behind %d lines: %+v, want %d", at, a, want)
		}
	}
	for at, want := range []int{2, 2, 1, 1} {
		// Stamps 1 and 2 are held; the first one is let go.
		a, _ := newReal(t, 2).takes(t, 2).broken(t, least(), at, free(0))
		if !sameAnswer(a, counted(want)) || a.Own != 3 {
			t.Errorf("P13.6: a Release behind %d lines: %+v, want %d", at, a, want)
		}
	}
	for at, want := range []int{1, 1, 1, 1} {
		a, _ := newReal(t, 2).takes(t, 2).broken(t, least(), at, free(1))
		if !sameAnswer(a, counted(want)) || a.Own != 3 {
			t.Errorf("P13.6: a Release of a later one behind %d lines: %+v, want %d", at, a, want)
		}
	}
}

// Leases() does no line: in a call of its own, crew's line is the only one.
func TestLeasesHasNoLine(t *testing.T) {
	r := newReal(t, 3).takes(t, 2)
	var list []int
	run, err := crew.Run(work([]api.Call{{}}), does(func(w *crew.Worker, _ api.Call) api.Answer {
		for range 10 {
			list = r.c.Leases()
		}
		w.Step()
		w.Step()
		return api.Answer{}
	}))
	if err != api.OK || run.Steps != 2 || !slices.Equal(list, []int{2, 3, 0}) {
		t.Errorf("P13.7: %+v, %v, %v", run, list, err)
	}
	// Nor do the rows at a run's end.
	run, rows, err := clock.Play(3, work([]api.Call{take(0)}))
	if err != api.OK || run.Steps != 5 || !sameLists(rows, [][]int{{2}, {2, 0, 0}}) {
		t.Errorf("P13.8: %+v, %v, %v", run, rows, err)
	}
}

// writeOver writes into a list and all the spare room behind it.
func writeOver(list []int) {
	list = list[:cap(list)]
	for i := range list {
		list[i] = -99
	}
}

func TestListsAreTheirOwnersOwn(t *testing.T) {
	for _, n := range []int{1, 2, 3, 5, 7, 8, 9, 33, most} {
		r := newReal(t, n).takes(t, n/2)
		s := r.state()
		a, b := r.c.Leases(), r.c.Leases()
		writeOver(a)
		_ = append(a, -98)
		if !slices.Equal(b, s.leases) {
			t.Errorf("rule 3: two lists share memory: %v", b)
		}
		r.wantState(t, "rule 3: behind a list that was written over", s)
		r.takes(t, n-n/2)
		r.c.Release(nil, 0)
		if !slices.Equal(b, s.leases) {
			t.Errorf("rule 3: a list that was told didn't stay: %v, was %v", b, s.leases)
		}
		if w := r.c.Least(nil); w != min(n+1, 2) {
			t.Errorf("rule 3: Least behind it: %d", w)
		}
	}
}

// Calls done one behind the other, each with all its lines, by a worker of a run and alone.
func TestOneBehindTheOther(t *testing.T) {
	for _, alone := range []bool{false, true} {
		m := mixer(4)
		for range 150 {
			n := 1 + m.below(5)
			r, model := newReal(t, n), newModel(n)
			for range 40 {
				c := m.call(n, manners{wild: true, frees: true})
				if c.Kind == 2 || c.Kind == 5 {
					c = holdsSnap(m.below(n+1), m.below(9)-1)
				}
				want := model.alone(c)
				var got api.Answer
				if alone {
					got = r.Do(nil, c)
					got.Own = want.Own
				} else {
					got = r.by(t, c)
				}
				if !sameAnswer(got, want) || got.Own != want.Own || !r.state().same(model.told()) {
					t.Fatalf("rule 10: %+v: %+v, %+v, want %+v, %+v", c, got, r.state(), want, model.told())
				}
			}
		}
	}
}

// Calls by their names, by the workers of a run, with snapshots that nobody took among them.
func TestByNameAgainstModel(t *testing.T) {
	held, not := 0, 0
	m := mixer(11)
	mixedPlays(2500, manners{wild: true, frees: true}, func(x mixed) {
		for k := range x.c.Work {
			for i, c := range x.c.Work[k] {
				if c.Kind == 2 || c.Kind == 5 {
					x.c.Work[k][i] = holdsSnap(m.below(x.leases), 1+m.below(4))
				}
			}
		}
		r, model := newReal(t, x.leases), newModel(x.leases)
		got, err := crew.Run(x.c, r)
		want := model.run(x.c, false)
		if err != api.OK || !sameRun(got, want) || !r.state().same(model.told()) {
			t.Fatalf("P13.2 to P13.6: %+v\ngot  %+v, %+v\nwant %+v, %+v", x, got, r.state(), want, model.told())
		}
		for k, answers := range got.Answers {
			for i, a := range answers {
				if x.c.Work[k][i].Kind != kindSnap {
					continue
				}
				if a.Ok {
					held++
				} else {
					not++
				}
			}
		}
	})
	if held < 500 || not < 500 {
		t.Errorf("the cases are too plain: %d held, %d not", held, not)
	}
}

// Calls that a greater one is made of do their own lines each, those that are refused too.
func TestLinesAddUp(t *testing.T) {
	r := newReal(t, 2)
	for _, x := range []struct {
		calls []api.Call
		lines int
	}{
		{[]api.Call{now(), least(), free(0), free(-1), free(2), holdsSnap(-1, 1), holdsSnap(2, 1), holdsSnap(0, 0)}, 1 + 3 + 6},
		{[]api.Call{take(0), take(0), take(0), least(), free(0), free(1)}, 5 + 6 + 2 + 3 + 2},
	} {
		run, err := crew.Run(work([]api.Call{{}}), does(func(w *crew.Worker, _ api.Call) api.Answer {
			for _, c := range x.calls {
				r.Do(w, c)
			}
			return api.Answer{}
		}))
		if err != api.OK || run.Steps != x.lines {
			t.Errorf("%+v in one call: %d lines, want %d", x.calls, run.Steps, x.lines)
		}
	}
}

// Two clocks have nothing in common.
func TestClocksDoNotTouch(t *testing.T) {
	a, b := newReal(t, 2), newReal(t, 2)
	a.takes(t, 2)
	b.wantState(t, "rule 6: another clock", moment(1, 0, 0))
	b.takes(t, 1)
	b.c.Release(nil, 0)
	a.wantState(t, "rule 6: another clock", moment(3, 2, 3))
}

// A lease may be taken and let go as often as one likes.
func TestManyStamps(t *testing.T) {
	const often = 200000
	r := newReal(t, 2)
	r.takes(t, 1)
	for i := range often {
		s, err := r.c.Take(nil)
		if err != api.OK || s != (api.Snap{Lease: 1, Stamp: i + 2}) || !r.c.Holds(nil, s) || r.c.Release(nil, 1) != api.OK || r.c.Holds(nil, s) {
			t.Fatalf("P13.3: Take %d: %+v, %v", i, s, err)
		}
	}
	r.wantState(t, "P13.3: behind many", moment(often+2, 2, 0))
	if r.c.Least(nil) != 1 || r.c.Release(nil, 0) != api.OK || r.c.Least(nil) != often+2 {
		t.Error("P13.6: behind many")
	}
}
