package tally_test

import (
	"runtime"
	"slices"
	"testing"
	"time"

	"skein/api"
	"skein/crew"
	"skein/tally"
)

func TestExampleOfShards(t *testing.T) {
	twice := []api.Call{addTo(0, 1), addTo(0, 1)}
	orders(2, 4, func(turns []int) {
		_, left, err := play(size{2, 0, 1}, api.Case{Work: [][]api.Call{twice, twice}, Turns: turns})
		if err != api.OK || !slices.Equal(left.Shards, []int{4, 0}) {
			t.Errorf("P5.5: the chapter's example 1: turns %v: %v, %v", turns, left, err)
		}
	})
	c := work([]api.Call{sumUp()}, []api.Call{addTo(0, 5), addTo(1, 7)})
	c.Turns = []int{0, 1, 1, 0}
	wantPlay(t, "P5.1: the chapter's example 1", size{2, 0, 1}, c, api.Run{Steps: 4, Answers: [][]api.Answer{
		{{Begin: 1, End: 4, Own: 2, N: 7}}, {{Begin: 2, End: 2, Own: 1}, {Begin: 3, End: 3, Own: 1}},
	}}, api.Tally{Shards: []int{5, 7}})
}

func TestExampleOfTickets(t *testing.T) {
	k := tally.NewTicket(10)
	if a, b, c := k.Next(nil), k.Next(nil), k.Now(nil); a != 10 || b != 11 || c != 12 {
		t.Errorf("P5.2: the chapter's example 2: %d, %d, %d", a, b, c)
	}
}

func TestExampleOfMarks(t *testing.T) {
	c := work([]api.Call{setMark(3)}, []api.Call{setMark(4)})
	c.Turns = []int{0, 1, 1, 0, 0, 0}
	wantPlay(t, "P5.3: the chapter's example 3", size{1, 0, 40}, c, api.Run{Steps: 6, Answers: [][]api.Answer{
		{{Begin: 1, End: 6, Own: 4, Ok: true}}, {{Begin: 2, End: 3, Own: 2, Ok: true}},
	}}, api.Tally{Shards: []int{0}, Marks: []int{3, 4}})
	c.Work[1][0] = setMark(35)
	wantPlay(t, "P5.3: the chapter's example 3", size{1, 0, 40}, c, api.Run{Steps: 4, Answers: [][]api.Answer{
		{{Begin: 1, End: 4, Own: 2, Ok: true}}, {{Begin: 2, End: 3, Own: 2, Ok: true}},
	}}, api.Tally{Shards: []int{0}, Marks: []int{3, 35}})
}

func TestNewCounter(t *testing.T) {
	for _, n := range []int{1, 2, 3, 63, 64} {
		x := newThings(t, size{n, 0, 1})
		if sum := x.counter.Sum(nil); sum != 0 {
			t.Errorf("P5.1: NewCounter(%d): Sum %d", n, sum)
		}
		wantPlay(t, "P5.1: a Sum's lines", size{n, 0, 1}, work([]api.Call{sumUp()}), api.Run{Steps: n, Answers: [][]api.Answer{
			{{Begin: 1, End: n, Own: n}},
		}}, api.Tally{Shards: make([]int, n)})
	}
	for _, n := range []int{lowest, -64, -1, 0, 65, 66, 128, 4096, 1 << 32, 1<<32 + 1, highest} {
		if c, err := tally.NewCounter(n); c != nil || err != api.ErrTallyMany {
			t.Errorf("P5.1: NewCounter(%d): %v, %v", n, c, err)
		}
	}
}

func TestNewMarks(t *testing.T) {
	for n, words := range map[int]int{1: 1, 2: 1, 31: 1, 32: 1, 33: 2, 63: 2, 64: 2, 65: 3, 4064: 127, 4065: 128, 4095: 128, 4096: 128} {
		x := newThings(t, size{1, 0, n})
		if count := x.marks.Count(nil); count != 0 {
			t.Errorf("P5.3: NewMarks(%d): Count %d", n, count)
		}
		for i := range n {
			if ok, err := x.marks.Test(nil, i); ok || err != api.OK {
				t.Errorf("P5.3: NewMarks(%d): Test(%d): %v, %v", n, i, ok, err)
			}
		}
		wantPlay(t, "P5.3: a Count's lines", size{1, 0, n}, work([]api.Call{countMarks()}), api.Run{Steps: words, Answers: [][]api.Answer{
			{{Begin: 1, End: words, Own: words}},
		}}, api.Tally{Shards: []int{0}})
	}
	for _, n := range []int{lowest, -4096, -32, -1, 0, 4097, 4098, 8192, 1 << 32, 1<<32 + 1, highest} {
		if m, err := tally.NewMarks(n); m != nil || err != api.ErrTallyMany {
			t.Errorf("P5.3: NewMarks(%d): %v, %v", n, m, err)
		}
	}
}

func TestTickets(t *testing.T) {
	for _, first := range farNumbers {
		k, other := tally.NewTicket(first), tally.NewTicket(first)
		want := first
		for range 5 {
			if a, b, c := k.Now(nil), k.Next(nil), k.Now(nil); a != want || b != want || c != want+1 {
				t.Errorf("P5.2: a ticket from %d on: %d, %d, %d, want %d", first, a, b, c, want)
			}
			want++
		}
		if n := other.Now(nil); n != first {
			t.Errorf("P5.2: another ticket from %d on: %d", first, n)
		}
		c := work([]api.Call{takeNext(), tellNow()})
		wantPlay(t, "P5.4: first", size{1, first, 1}, c, api.Run{Steps: 2, Answers: [][]api.Answer{
			{{Begin: 1, End: 1, Own: 1, N: first}, {Begin: 2, End: 2, Own: 1, N: first + 1}},
		}}, api.Tally{Shards: []int{0}, Ticket: first + 1})
	}
}

// Each shard is a word of its own, and so is each counter's.
func TestShardsApart(t *testing.T) {
	for _, n := range []int{1, 2, api.MaxShards} {
		want, calls := make([]int, n), []api.Call(nil)
		for i := range n {
			want[i] = i*i - 300
			calls = append(calls, addTo(i, want[i]))
		}
		_, left, _ := play(size{n, 0, 1}, work(calls))
		if !slices.Equal(left.Shards, want) {
			t.Errorf("P5.4: %d shards: %v, want %v", n, left.Shards, want)
		}
	}
	x, other := newThings(t, size{3, 0, 1}), newThings(t, size{3, 0, 1})
	x.counter.Add(nil, 1, 5)
	if a, b := x.counter.Sum(nil), other.counter.Sum(nil); a != 5 || b != 0 {
		t.Errorf("P5.1: two counters: %d, %d", a, b)
	}
}

// Each mark stands apart, those on both sides of a word's end as well, and so does each object's.
func TestMarksApart(t *testing.T) {
	for _, n := range []int{1, 31, 32, 33, 64, 65, 200} {
		for i := range n {
			x, other := newThings(t, size{1, 0, n}), newThings(t, size{1, 0, n})
			if ok, err := x.marks.Set(nil, i); !ok || err != api.OK || !x.are(api.Tally{Shards: []int{0}, Marks: []int{i}}) {
				t.Fatalf("P5.3: of %d marks: Set(%d): %v, %v", n, i, ok, err)
			}
			if !other.are(api.Tally{Shards: []int{0}}) {
				t.Fatalf("P5.3: of %d marks: Set(%d) in others", n, i)
			}
		}
	}
}

func TestAllMarks(t *testing.T) {
	s := size{1, 0, api.MaxMarks}
	x, all := newThings(t, s), []int(nil)
	for i := range api.MaxMarks {
		all = append(all, i)
		if ok, err := x.marks.Set(nil, i); !ok || err != api.OK || x.marks.Count(nil) != i+1 {
			t.Fatalf("P5.3: Set(%d): %v, %v, Count %d", i, ok, err, x.marks.Count(nil))
		}
	}
	if !x.are(api.Tally{Shards: []int{0}, Marks: all}) {
		t.Error("P5.3: not all marks are set")
	}
	for _, i := range []int{0, 31, 32, 63, 64, 2048, 4063, 4064, 4095} {
		at := slices.Index(all, i)
		all = slices.Delete(all, at, at+1)
		if ok, err := x.marks.Clear(nil, i); !ok || err != api.OK || !x.are(api.Tally{Shards: []int{0}, Marks: all}) {
			t.Fatalf("P5.3: Clear(%d): %v, %v", i, ok, err)
		}
	}
}

// deed: a call behind some others, over 3 shards, a ticket from 10 on and 70 marks: what it answers, its lines, what is left.
type deed struct {
	ahead  []api.Call
	call   api.Call
	answer api.Answer
	lines  int
	left   api.Tally
}

var deedSize = size{3, 10, 70}

func left(a, b, c, ticket int, marks ...int) api.Tally {
	return api.Tally{Shards: []int{a, b, c}, Ticket: ticket, Marks: marks}
}

func deeds() []deed {
	some := []api.Call{addTo(0, 1), addTo(1, 20), addTo(2, 300), takeNext(), setMark(3), setMark(31), setMark(32), setMark(64)}
	marks := []int{3, 31, 32, 64}
	was := left(1, 20, 300, 11, marks...)
	full := []api.Call{addTo(0, highest), addTo(1, highest), addTo(2, highest)}
	no := api.Answer{Err: api.ErrTallyPlace}
	return []deed{
		{some, addTo(0, 5), api.Answer{}, 1, left(6, 20, 300, 11, marks...)},
		{some, addTo(1, -25), api.Answer{}, 1, left(1, -5, 300, 11, marks...)},
		{some, addTo(2, 0), api.Answer{}, 1, was},
		{some, addTo(2, highest), api.Answer{}, 1, left(1, 20, lowest+299, 11, marks...)},
		{some, addTo(2, lowest), api.Answer{}, 1, left(1, 20, lowest+300, 11, marks...)},
		{full, addTo(1, 1), api.Answer{}, 1, left(highest, lowest, highest, 10)},
		{full, addTo(1, highest), api.Answer{}, 1, left(highest, -2, highest, 10)},
		{nil, addTo(0, lowest), api.Answer{}, 1, left(lowest, 0, 0, 10)},
		{nil, sumUp(), api.Answer{}, 3, left(0, 0, 0, 10)},
		{some, sumUp(), api.Answer{N: 321}, 3, was},
		{full, sumUp(), api.Answer{N: highest - 2}, 3, left(highest, highest, highest, 10)},
		{full[:2], sumUp(), api.Answer{N: -2}, 3, left(highest, highest, 0, 10)},
		{[]api.Call{addTo(1, lowest), addTo(2, -1)}, sumUp(), api.Answer{N: highest}, 3, left(0, lowest, -1, 10)},
		{some, takeNext(), api.Answer{N: 11}, 1, left(1, 20, 300, 12, marks...)},
		{some, tellNow(), api.Answer{N: 11}, 1, was},
		{nil, setMark(0), api.Answer{Ok: true}, 2, left(0, 0, 0, 10, 0)},
		{nil, setMark(69), api.Answer{Ok: true}, 2, left(0, 0, 0, 10, 69)},
		{some, setMark(3), api.Answer{}, 1, was},
		{some, setMark(4), api.Answer{Ok: true}, 2, left(1, 20, 300, 11, 3, 4, 31, 32, 64)},
		{some, setMark(0), api.Answer{Ok: true}, 2, left(1, 20, 300, 11, 0, 3, 31, 32, 64)},
		{some, setMark(30), api.Answer{Ok: true}, 2, left(1, 20, 300, 11, 3, 30, 31, 32, 64)},
		{some, setMark(63), api.Answer{Ok: true}, 2, left(1, 20, 300, 11, 3, 31, 32, 63, 64)},
		{some, setMark(31), api.Answer{}, 1, was},
		{some, setMark(32), api.Answer{}, 1, was},
		{some, setMark(64), api.Answer{}, 1, was},
		{nil, clearMark(0), api.Answer{}, 1, left(0, 0, 0, 10)},
		{some, clearMark(3), api.Answer{Ok: true}, 2, left(1, 20, 300, 11, 31, 32, 64)},
		{some, clearMark(31), api.Answer{Ok: true}, 2, left(1, 20, 300, 11, 3, 32, 64)},
		{some, clearMark(32), api.Answer{Ok: true}, 2, left(1, 20, 300, 11, 3, 31, 64)},
		{some, clearMark(64), api.Answer{Ok: true}, 2, left(1, 20, 300, 11, 3, 31, 32)},
		{some, clearMark(63), api.Answer{}, 1, was},
		{some, clearMark(0), api.Answer{}, 1, was},
		{some, clearMark(35), api.Answer{}, 1, was},
		{some, testMark(3), api.Answer{Ok: true}, 1, was},
		{some, testMark(31), api.Answer{Ok: true}, 1, was},
		{some, testMark(32), api.Answer{Ok: true}, 1, was},
		{some, testMark(64), api.Answer{Ok: true}, 1, was},
		{some, testMark(0), api.Answer{}, 1, was},
		{some, testMark(63), api.Answer{}, 1, was},
		{some, testMark(35), api.Answer{}, 1, was},
		{nil, countMarks(), api.Answer{}, 3, left(0, 0, 0, 10)},
		{some, countMarks(), api.Answer{N: 4}, 3, was},
		{some, addTo(-1, 5), no, 1, was},
		{some, addTo(3, 5), no, 1, was},
		{some, setMark(-1), no, 1, was},
		{some, setMark(70), no, 1, was},
		{some, clearMark(-1), no, 1, was},
		{some, clearMark(95), no, 1, was},
		{some, testMark(-1), no, 1, was},
		{some, testMark(70), no, 1, was},
	}
}

func TestDeedsAlone(t *testing.T) {
	for _, d := range deeds() {
		x := newThings(t, deedSize)
		for _, c := range d.ahead {
			x.do(nil, c)
		}
		if a := x.do(nil, d.call); !sameAnswer(a, d.answer) {
			t.Errorf("P5.1 to P5.3: behind %+v: %+v: %+v, want %+v", d.ahead, d.call, a, d.answer)
		}
		if !x.are(d.left) {
			t.Errorf("P5.1 to P5.3: behind %+v: %+v doesn't leave %+v", d.ahead, d.call, d.left)
		}
	}
}

// A worker of a run counts the lines of a call that is called by its name; nothing of it is done ahead of its first line's step.
func TestDeedsByAWorker(t *testing.T) {
	for _, d := range deeds() {
		x := newThings(t, deedSize)
		c := work([]api.Call{d.call}, d.ahead)
		c.Turns = []int{0}
		for range d.ahead {
			c.Turns = append(c.Turns, 1, 1)
		}
		run, _ := crew.Run(c, does(func(w *crew.Worker, call api.Call) api.Answer {
			if w.Number() == 0 {
				w.Step()
			}
			return x.do(w, call)
		}))
		if a := run.Answers[0][0]; !sameAnswer(a, d.answer) || a.Own != d.lines+1 {
			t.Errorf("P5.1 to P5.3: behind %+v: %+v: %+v, want %+v in %d lines", d.ahead, d.call, a, d.answer, d.lines)
		}
		if !x.are(d.left) {
			t.Errorf("P5.1 to P5.3: behind %+v: %+v doesn't leave %+v", d.ahead, d.call, d.left)
		}
	}
}

func TestDeedsPlayed(t *testing.T) {
	for _, d := range deeds() {
		run, left, err := play(deedSize, work(append(slices.Clone(d.ahead), d.call)))
		if err != api.OK || !sameTally(left, d.left) || len(run.Answers[0]) != len(d.ahead)+1 || run.Cut || len(run.Open) > 0 {
			t.Errorf("P5.4: %+v, %+v: %+v, %+v, %v", d.ahead, d.call, run, left, err)
			continue
		}
		a := run.Answers[0][len(d.ahead)]
		if !sameAnswer(a, d.answer) || a.Own != d.lines || a.Begin != run.Steps-d.lines+1 || a.End != run.Steps {
			t.Errorf("P5.4: %+v, %+v: %+v of %d steps, want %+v in %d lines", d.ahead, d.call, a, run.Steps, d.answer, d.lines)
		}
	}
}

var noPlaces = []int{lowest, lowest + 1, -1 << 32, -32, -1, 1 << 32, 1<<32 + 1, highest}

func TestNoPlace(t *testing.T) {
	refused := api.Answer{Begin: 1, End: 1, Own: 1, Err: api.ErrTallyPlace}
	for _, s := range []size{{1, 0, 1}, {3, 0, 31}, {3, 0, 32}, {5, 0, 33}, {64, 0, 4096}} {
		x := newThings(t, s)
		places := map[int][]int{1: {s.shards, s.shards + 1}}
		for kind := 5; kind <= 7; kind++ {
			places[kind] = []int{s.marks, s.marks + 1, s.marks + 31, s.marks + 32}
		}
		for kind, list := range places {
			for _, i := range append(list, noPlaces...) {
				call := api.Call{Kind: kind, A: i, B: 7}
				if a := x.do(nil, call); !sameAnswer(a, api.Answer{Err: api.ErrTallyPlace}) {
					t.Errorf("P5.1, P5.3: of %+v: %+v: %+v", s, call, a)
				}
				wantPlay(t, "P5.1, P5.3: no place", s, work([]api.Call{call}), api.Run{Steps: 1, Answers: [][]api.Answer{{refused}}}, api.Tally{Shards: make([]int, s.shards)})
			}
		}
		if !x.are(api.Tally{}) {
			t.Errorf("P5.1, P5.3: of %+v: refused calls changed something", s)
		}
	}
}

func TestLastPlace(t *testing.T) {
	for _, s := range []size{{1, 0, 1}, {2, 0, 32}, {3, 0, 33}, {64, 0, 4096}} {
		m := newModel(s)
		x := newThings(t, s)
		for _, call := range []api.Call{
			addTo(s.shards-1, 5), addTo(0, 6), sumUp(), setMark(s.marks - 1), setMark(0), testMark(s.marks - 1), countMarks(), clearMark(s.marks - 1), testMark(s.marks - 1), countMarks(),
		} {
			if a, want := x.do(nil, call), m.alone(call); !sameAnswer(a, want) || !x.are(m.tally()) {
				t.Errorf("P5.1, P5.3: of %+v: %+v: %+v, want %+v", s, call, a, want)
			}
		}
	}
}

func TestAloneAgainstModel(t *testing.T) {
	r := mixer(7)
	s := size{4, highest - 500, 70}
	x, m := newThings(t, s), newModel(s)
	for range 20000 {
		call := r.call(s, true)
		if a, want := x.do(nil, call), m.alone(call); !sameAnswer(a, want) {
			t.Fatalf("P5.1 to P5.3: %+v: %+v, want %+v", call, a, want)
		}
	}
	if !x.are(m.tally()) {
		t.Errorf("P5.1 to P5.3: not %+v", m.tally())
	}
}

func TestPlayRefuses(t *testing.T) {
	good := work([]api.Call{addTo(0, 1)})
	bad := api.Case{}
	for _, x := range []struct {
		size size
		c    api.Case
		err  api.Errno
	}{
		{size{0, 1, 1}, good, api.ErrTallyMany},
		{size{-1, 1, 1}, good, api.ErrTallyMany},
		{size{lowest, 1, 1}, good, api.ErrTallyMany},
		{size{65, 1, 1}, good, api.ErrTallyMany},
		{size{highest, 1, 1}, good, api.ErrTallyMany},
		{size{1, 1, 0}, good, api.ErrTallyMany},
		{size{1, 1, -1}, good, api.ErrTallyMany},
		{size{1, 1, lowest}, good, api.ErrTallyMany},
		{size{1, 1, 4097}, good, api.ErrTallyMany},
		{size{1, 1, highest}, good, api.ErrTallyMany},
		{size{0, 1, 0}, good, api.ErrTallyMany},
		{size{0, 1, 1}, bad, api.ErrTallyMany},
		{size{65, 1, 1}, bad, api.ErrTallyMany},
		{size{1, 1, 0}, bad, api.ErrTallyMany},
		{size{1, 1, 4097}, bad, api.ErrTallyMany},
		{size{1, 1, 1}, bad, api.ErrCrewCase},
		{size{64, 1, 4096}, bad, api.ErrCrewCase},
		{size{1, 1, 1}, api.Case{Work: make([][]api.Call, 9)}, api.ErrCrewCase},
		{size{1, 1, 1}, work(nil, make([]api.Call, 65)), api.ErrCrewCase},
		{size{1, 1, 1}, api.Case{Work: good.Work, Until: -1}, api.ErrCrewCase},
		{size{1, 1, 1}, api.Case{Work: good.Work, Until: api.MaxSteps + 1}, api.ErrCrewCase},
	} {
		run, left, err := play(x.size, x.c)
		if err != x.err || !sameRun(run, api.Run{}) || !sameTally(left, api.Tally{}) {
			t.Errorf("P5.4: Play(%+v, %+v): %+v, %+v, %v, want %v", x.size, x.c, run, left, err, x.err)
		}
	}
}

func TestIdlePlay(t *testing.T) {
	for _, s := range []size{{1, 0, 1}, {64, highest, 4096}, {3, lowest, 33}} {
		wantPlay(t, "P5.4: no calls", s, work(nil, nil), api.Run{Answers: [][]api.Answer{nil, nil}}, api.Tally{Shards: make([]int, s.shards), Ticket: s.first})
	}
}

func TestKindsThatCantBe(t *testing.T) {
	refused := api.Answer{Begin: 1, End: 1, Own: 1, Err: api.ErrTallyCall}
	left := api.Tally{Shards: []int{0, 0}, Ticket: 3}
	for _, kind := range []int{lowest, -8, -1, 0, 9, 10, 100, 1<<32 + 1, highest} {
		for _, place := range []int{-1, 0, 1, 2, 40, highest} {
			call := api.Call{Kind: kind, A: place, B: 3, C: 4, Pairs: []api.Pair{{Key: 1, Value: 2}}}
			wantPlay(t, "P5.4: a Kind that can't be", size{2, 3, 40}, work([]api.Call{call}), api.Run{Steps: 1, Answers: [][]api.Answer{{refused}}}, left)
		}
	}
	wantPlay(t, "P5.4: behind a refused call", size{2, 3, 40}, work([]api.Call{{Kind: 9}, tellNow()}), api.Run{Steps: 2, Answers: [][]api.Answer{
		{refused, {Begin: 2, End: 2, Own: 1, N: 3}},
	}}, left)
}

// What a call has no use for isn't looked at, nor answered.
func TestFieldsWithoutUse(t *testing.T) {
	rest := []api.Pair{{Key: 1, Value: 2}}
	c := work([]api.Call{
		{Kind: 1, A: 1, B: 4, C: 9, Pairs: rest},
		{Kind: 2, A: -1, B: 9, C: 9, Pairs: rest},
		{Kind: 3, A: -1, B: 9, C: 9, Pairs: rest},
		{Kind: 4, A: 99, B: 9, C: 9, Pairs: rest},
		{Kind: 5, A: 2, B: -1, C: 9, Pairs: rest},
		{Kind: 7, A: 2, B: -1, C: 9, Pairs: rest},
		{Kind: 8, A: -1, B: 9, C: 9, Pairs: rest},
		{Kind: 6, A: 2, B: -1, C: 9, Pairs: rest},
	})
	wantPlay(t, "P5.4: fields", size{2, 7, 3}, c, api.Run{Steps: 11, Answers: [][]api.Answer{{
		{Begin: 1, End: 1, Own: 1},
		{Begin: 2, End: 3, Own: 2, N: 4},
		{Begin: 4, End: 4, Own: 1, N: 7},
		{Begin: 5, End: 5, Own: 1, N: 8},
		{Begin: 6, End: 7, Own: 2, Ok: true},
		{Begin: 8, End: 8, Own: 1, Ok: true},
		{Begin: 9, End: 9, Own: 1, N: 1},
		{Begin: 10, End: 11, Own: 2, Ok: true},
	}}}, api.Tally{Shards: []int{0, 4}, Ticket: 8})
}

func TestGreatestCase(t *testing.T) {
	var c api.Case
	for k := range api.MaxWorkers {
		var calls []api.Call
		for i := range api.MaxCalls {
			calls = append(calls, []api.Call{addTo(i, k+1), takeNext(), setMark(64*k + i), sumUp(), setMark(4095 - i%7), clearMark(i % 3), countMarks()}[i%7])
		}
		c.Work = append(c.Work, calls)
	}
	c.Turns = []int{5, 3, 3, -1}
	run, _ := wantModel(t, "P5.4: the greatest case", size{api.MaxShards, 0, api.MaxMarks}, c)
	if run.Steps < 14000 || run.Cut {
		t.Errorf("the case is too plain: %d steps", run.Steps)
	}
	for k := range c.Work {
		for i := range c.Work[k] {
			c.Work[k][i] = countMarks()
		}
	}
	run, _ = wantModel(t, "P5.4: a case that is cut at its most steps", size{1, 0, api.MaxMarks}, c)
	if run.Steps != api.MaxSteps || !run.Cut || len(run.Open) == 0 {
		t.Errorf("P5.4: %d steps, Cut %v, open %v", run.Steps, run.Cut, run.Open)
	}
}

// What is added, or set, between a Sum's, or a Count's, lines is told just if its word comes yet.
func TestGatheringGoesInOrder(t *testing.T) {
	const words = 5
	for lines := range words + 1 {
		for i := range words {
			c := work([]api.Call{sumUp()}, []api.Call{addTo(i, 7)})
			c.Turns = append(make([]int, lines), 1)
			want := api.Answer{Begin: 1, End: words + 1, Own: words, N: 7}
			if i < lines {
				want.N = 0
			}
			if lines == 0 {
				want.Begin = 2
			}
			if lines == words {
				want.End = words
			}
			run, _ := wantModel(t, "P5.1: Sum", size{words, 0, 1}, c)
			if a := run.Answers[0][0]; !sameAnswer(a, want) || a.Begin != want.Begin || a.End != want.End || a.Own != words {
				t.Errorf("P5.1: Sum, behind %d lines Add(%d, 7): %+v, want %+v", lines, i, a, want)
			}
			c = work([]api.Call{countMarks()}, []api.Call{setMark(i*32 + 6*i)})
			c.Turns = append(make([]int, lines), 1, 1)
			run, _ = wantModel(t, "P5.3: Count", size{1, 0, 32 * words}, c)
			if a := run.Answers[0][0]; a.N != want.N/7 || a.Own != words {
				t.Errorf("P5.3: Count, behind %d lines Set(%d): %+v", lines, i*32+6*i, a)
			}
		}
	}
}

var wordEnds = []int{0, 1, 30, 31, 32, 33, 62, 63, 64, 65, 95, 96}

// A call that has loaded its word is held up by another mark of the same word, not by one of another word.
func TestHeldUpByTheSameWord(t *testing.T) {
	for _, i := range wordEnds {
		for _, j := range wordEnds {
			own, ok := 2, true
			if i/32 == j/32 {
				own = 4
			}
			if i == j {
				own, ok = 3, false
			}
			set := work([]api.Call{setMark(i)}, []api.Call{setMark(j)})
			set.Turns = []int{0, 1, 1}
			clear := work([]api.Call{setMark(i), setMark(j), clearMark(i)}, []api.Call{clearMark(j)})
			clear.Turns = []int{0, 0, 0, 0, 0, 1, 1}
			if i == j {
				clear.Turns = []int{0, 0, 0, 0, 1, 1}
			}
			for _, c := range []api.Case{set, clear} {
				run, _ := wantModel(t, "P5.8", size{1, 0, 97}, c)
				a := run.Answers[0][len(run.Answers[0])-1]
				if b := run.Answers[1][0]; a.Own != own || a.Ok != ok || !b.Ok || b.Own != 2 {
					t.Errorf("P5.8: %+v: %+v and %+v, want %v in %d lines", c, a, b, ok, own)
				}
			}
		}
	}
}

// both: Set and Clear, of which one is the other one upside down.
var both = []struct {
	name     string
	do, undo func(i int) api.Call
	first    []api.Call
}{
	{"Set", setMark, clearMark, nil},
	{"Clear", clearMark, setMark, []api.Call{setMark(0), setMark(1), setMark(2), setMark(3), setMark(32), setMark(33)}},
}

// ahead puts calls in front of worker 0's, and their turns in front of the case's.
func ahead(first []api.Call, c api.Case) api.Case {
	c = plainCase(c)
	c.Work[0] = append(slices.Clone(first), c.Work[0]...)
	c.Turns = append(make([]int, 2*len(first)), c.Turns...)
	return c
}

func last(answers []api.Answer) api.Answer { return answers[len(answers)-1] }

func TestGoesRoundOften(t *testing.T) {
	for _, b := range both {
		for _, rounds := range []int{0, 1, 2, 3, 10, 64} {
			c := work([]api.Call{b.do(0)}, nil)
			for i := range rounds {
				c.Work[1] = append(c.Work[1], []api.Call{b.do(1), b.undo(1)}[i%2])
				c.Turns = append(c.Turns, 0, 1, 1, 0)
			}
			c = ahead(b.first, c)
			run, left := wantModel(t, "P5.8: "+b.name, size{1, 0, 40}, c)
			if a := last(run.Answers[0]); a.Own != 2*rounds+2 || !a.Ok || slices.Contains(left.Marks, 0) != (b.name == "Set") {
				t.Errorf("P5.8: %s, %d rounds: %+v, %v", b.name, rounds, a, left)
			}
		}
	}
}

// A call that another one has overtaken finds nothing to do, at once or behind some rounds.
func TestOvertaken(t *testing.T) {
	for _, b := range both {
		c := work([]api.Call{b.do(0)}, []api.Call{b.do(1), b.do(0)})
		c.Turns = []int{0, 1, 1, 0, 0, 1, 1, 0, 0}
		run, _ := wantModel(t, "P5.3: "+b.name, size{1, 0, 40}, ahead(b.first, c))
		if a := last(run.Answers[0]); a.Own != 5 || a.Ok {
			t.Errorf("P5.3: %s that was overtaken: %+v", b.name, a)
		}
	}
}

// Between its two lines a call is held up by a change of its word alone: not by what finds nothing to do, loads, is refused, goes by other words, or by a change that was turned back.
func TestNotHeldUp(t *testing.T) {
	for _, b := range both {
		for _, between := range [][]api.Call{
			{testMark(0)}, {testMark(1)}, {countMarks()}, {b.undo(0)}, {b.undo(1)}, {b.do(32)}, {b.do(33), b.do(32)}, {b.do(-1)}, {b.do(40)}, {b.undo(40)}, {{Kind: 9}},
			{b.do(1), b.undo(1)}, {b.do(0), b.undo(0)}, {b.do(1), b.do(2), b.undo(1), b.undo(2)}, {addTo(0, 1), takeNext(), tellNow(), sumUp()},
		} {
			c := work([]api.Call{b.do(0)}, between)
			c.Turns = []int{0}
			for range between {
				c.Turns = append(c.Turns, 1, 1)
			}
			// Only worker 1 can step till its calls have ended: worker 0 gets the rest.
			c.Halt = []int{2*len(b.first) + 1}
			opened, _ := wantModel(t, "P5.8: "+b.name, size{1, 0, 40}, ahead(b.first, c))
			c.Turns = append(make([]int, 1), ones(opened.Steps-2*len(b.first)-1)...)
			c.Halt = nil
			run, left := wantModel(t, "P5.8: "+b.name, size{1, 0, 40}, ahead(b.first, c))
			a := last(run.Answers[0])
			if a.Own != 2 || !a.Ok || a.End != run.Steps || slices.Contains(left.Marks, 0) != (b.name == "Set") {
				t.Errorf("P5.8: %s, between its lines %+v: %+v, %+v", b.name, between, a, left)
			}
		}
	}
}

func ones(n int) []int {
	list := make([]int, n)
	for i := range list {
		list[i] = 1
	}
	return list
}

func TestHaltsAndCutsBetweenLoadAndCas(t *testing.T) {
	for _, b := range both {
		before := 2 * len(b.first)
		for lines := 1; lines <= 2; lines++ {
			c := ahead(b.first, work([]api.Call{b.do(0), takeNext()}))
			want := before/2 + lines - 1
			marks := lines == 2 == (b.name == "Set")
			for _, cut := range []bool{false, true} {
				c.Halt, c.Until = []int{before + lines}, 0
				if cut {
					c.Halt, c.Until = nil, before+lines
				}
				run, left := wantModel(t, "P5.5: "+b.name, size{1, 0, 40}, c)
				open := []api.Open{{Worker: 0, Begin: before + 1, Own: 1}}
				if lines == 2 {
					open = nil
				}
				if run.Cut != cut || run.Steps != before+lines || len(run.Answers[0]) != want || !slices.Equal(run.Open, open) || slices.Contains(left.Marks, 0) != marks || left.Ticket != 0 {
					t.Errorf("P5.7: %s, stopped behind %d lines, cut %v: %+v, %+v", b.name, lines, cut, run, left)
				}
			}
		}
	}
}

// A call that is halted behind a cas that failed has changed nothing; who goes on doesn't wait for it.
func TestHaltedInALaterRound(t *testing.T) {
	for _, b := range both {
		for halt := 1; halt <= 4; halt++ {
			c := work([]api.Call{b.do(0)}, []api.Call{b.do(1), b.do(2)})
			c.Turns = []int{0, 1, 1, 0, 0, 0}
			c = ahead(b.first, c)
			c.Halt = []int{2*len(b.first) + halt}
			run, left := wantModel(t, "P5.7: "+b.name, size{1, 0, 40}, c)
			open := []api.Open{{Worker: 0, Begin: 2*len(b.first) + 1, Own: halt}}
			if halt == 4 {
				open = nil
			}
			done := slices.Contains(left.Marks, 0) == (b.name == "Set")
			if done != (halt == 4) || !slices.Equal(run.Open, open) || len(run.Answers[1]) != 2 || run.Cut {
				t.Errorf("P5.7: %s, halted behind %d lines: %+v, %+v", b.name, halt, run, left)
			}
		}
	}
}

func TestHaltsAndCutsInAGathering(t *testing.T) {
	for _, call := range []api.Call{sumUp(), countMarks()} {
		for lines := 1; lines <= 3; lines++ {
			c := work([]api.Call{call, addTo(0, 1)})
			want := api.Run{Steps: lines, Answers: [][]api.Answer{nil}, Open: []api.Open{{Worker: 0, Begin: 1, Own: lines}}}
			if lines == 3 {
				want.Answers[0], want.Open = []api.Answer{{Begin: 1, End: 3, Own: 3}}, nil
			}
			c.Halt = []int{lines}
			wantPlay(t, "P5.4: halted", size{3, 4, 70}, c, want, left(0, 0, 0, 4))
			c.Halt, c.Until = nil, lines
			want.Cut = true
			wantPlay(t, "P5.4: cut", size{3, 4, 70}, c, want, left(0, 0, 0, 4))
		}
	}
}

func TestAgainstModel(t *testing.T) {
	rounds, opens, cuts := 0, 0, 0
	mixedPlays(6000, true, func(x mixed) {
		run, _ := wantModel(t, "P5.4", x.size, x.c)
		for k, answers := range run.Answers {
			for i, a := range answers {
				if kind := x.c.Work[k][i].Kind; a.Own > 2 && (kind == 5 || kind == 6) {
					rounds++
				}
			}
		}
		opens += len(run.Open)
		if run.Cut {
			cuts++
		}
	})
	if rounds < 100 || opens < 100 || cuts < 100 {
		t.Errorf("the cases are too plain: %d went round, %d open, %d cut", rounds, opens, cuts)
	}
}

// Calls by their names, by the workers of a run, do the same lines as Play's.
func TestByNameAgainstModel(t *testing.T) {
	mixedPlays(2000, true, func(x mixed) {
		th := newThings(t, x.size)
		got, _ := crew.Run(x.c, does(th.do))
		want, left := newModel(x.size).play(x.c)
		if !sameRun(got, want) || !th.are(left) {
			t.Fatalf("P5.1 to P5.3: %+v\ngot  %+v\nwant %+v %+v", x, got, want, left)
		}
	})
}

// roomy copies a list into one with spare room, in which something stands.
func roomy(list []int) []int {
	room := append(slices.Clone(list), 71, 72, 73)
	return room[:len(list)]
}

// writeOver writes into a list and all the spare room behind it.
func writeOver(list []int) {
	list = list[:cap(list)]
	for i := range list {
		list[i] = -99
	}
}

func TestSameEachTime(t *testing.T) {
	mixedPlays(300, true, func(x mixed) {
		run, left, err := play(x.size, x.c)
		for range 5 {
			again, then, e := play(x.size, x.c)
			if !sameRun(run, again) || !sameTally(left, then) || e != err {
				t.Fatalf("P5.4: %+v\nonce %+v %+v %v\nthen %+v %+v %v", x, run, left, err, again, then, e)
			}
		}
	})
}

func TestPlayKeepsToItsOwnMemory(t *testing.T) {
	mixedPlays(300, true, func(x mixed) {
		c := plainCase(x.c)
		c.Turns, c.Halt = roomy(c.Turns), roomy(c.Halt)
		run, left, _ := play(x.size, c)
		if !slices.Equal(c.Turns, x.c.Turns) || !slices.Equal(c.Halt, x.c.Halt) || !slices.Equal(c.Turns[:len(c.Turns)+3][len(c.Turns):], []int{71, 72, 73}) {
			t.Fatalf("P5.4: Play changed the case: %+v", c)
		}
		keptRun, kept := plainRun(run), plainTally(left)
		writeOver(c.Turns)
		writeOver(c.Halt)
		for k := range c.Work {
			for i := range c.Work[k] {
				c.Work[k][i] = api.Call{Kind: -99}
			}
		}
		if !sameRun(run, keptRun) || !sameTally(left, kept) {
			t.Fatalf("P5.4: an answer hangs on what was handed in: %+v", x)
		}
		writeOver(left.Shards)
		if !slices.Equal(left.Marks, kept.Marks) || !sameRun(run, keptRun) {
			t.Fatalf("P5.4: an answer hangs on the shards: %+v", x)
		}
		writeOver(left.Marks)
		wantPlay(t, "P5.4: behind answers that were written over", x.size, x.c, keptRun, kept)
	})
}

func TestPlayLeavesNothing(t *testing.T) {
	before := runtime.NumGoroutine()
	mixedPlays(200, true, func(x mixed) { play(x.size, x.c) })
	for range 500 {
		if runtime.NumGoroutine() <= before {
			return
		}
		time.Sleep(time.Millisecond)
	}
	t.Errorf("P5.4: %d goroutines, %d ahead of it", runtime.NumGoroutine(), before)
}
