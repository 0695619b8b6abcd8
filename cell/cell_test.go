package cell_test

import (
	"math"
	"runtime"
	"slices"
	"sort"
	"testing"
	"time"

	"skein/api"
	"skein/cell"
	"skein/crew"
)

func TestExamples(t *testing.T) {
	c := work([]api.Call{most(0, 5)}, []api.Call{most(0, 9)})
	c.Turns = []int{0, 1, 1, 0, 0}
	wantPlay(t, "P4.3: the chapter's example", 1, nil, c, api.Run{Steps: 5, Answers: [][]api.Answer{
		{{Begin: 1, End: 5, Own: 3, N: 9}}, {{Begin: 2, End: 3, Own: 2, N: 9}},
	}}, []int{9})
	if n, err := newCells(t, 3).Load(nil, 9); n != 0 || err != api.ErrCellPlace {
		t.Errorf("P4.2: Load(nil, 9) of 3 cells: %d, %v", n, err)
	}
}

func TestNew(t *testing.T) {
	for _, n := range []int{1, 2, 3, 255, 256} {
		if l := newCells(t, n).Values(); !slices.Equal(l, make([]int, n)) {
			t.Errorf("P4.1: New(%d): %v", n, l)
		}
	}
	for _, n := range []int{math.MinInt, -257, -1, 0, 257, 258, 4096, 1 << 32, 1<<32 + 1, math.MaxInt} {
		if c, err := cell.New(n); c != nil || err != api.ErrCellMany {
			t.Errorf("P4.1: New(%d): %v, %v", n, c, err)
		}
	}
}

// Each place is a cell of its own, and so is each object's.
func TestPlacesApart(t *testing.T) {
	c, other := newCells(t, api.MaxCells), newCells(t, api.MaxCells)
	want := make([]int, api.MaxCells)
	for i := range want {
		want[i] = i*i - 300
		if err := c.Store(nil, i, want[i]); err != api.OK {
			t.Fatalf("P4.2: Store at %d: %v", i, err)
		}
		if l := c.Values(); !slices.Equal(l, want) {
			t.Fatalf("P4.1: behind Store at %d: %v", i, l)
		}
	}
	for i := range want {
		if n, err := c.Load(nil, i); n != want[i] || err != api.OK {
			t.Errorf("P4.2: Load at %d: %d, %v", i, n, err)
		}
	}
	if l := other.Values(); !slices.Equal(l, make([]int, api.MaxCells)) {
		t.Errorf("P4.1: other cells: %v", l)
	}
}

func TestValuesAreNewMemory(t *testing.T) {
	c := newCells(t, 3)
	c.Store(nil, 1, 7)
	a, b := c.Values(), c.Values()
	writeOver(a)
	if !slices.Equal(b, []int{0, 7, 0}) || !slices.Equal(c.Values(), []int{0, 7, 0}) {
		t.Errorf("P4.1: behind a write into an answer: %v, %v", b, c.Values())
	}
	c.Store(nil, 1, 8)
	if !slices.Equal(b, []int{0, 7, 0}) {
		t.Errorf("P4.1: an answer that a Store changed: %v", b)
	}
}

// writeOver writes into a list and all the spare room behind it.
func writeOver(list []int) {
	list = list[:cap(list)]
	for i := range list {
		list[i] = -99
	}
}

// deed: a call at a cell that is at first something, what it answers, what it leaves, its lines.
type deed struct {
	first  int
	call   api.Call
	answer api.Answer
	leaves int
	lines  int
}

const (
	lowest  = math.MinInt
	highest = math.MaxInt
)

var deeds = []deed{
	{5, load(1), api.Answer{N: 5}, 5, 1},
	{lowest, load(1), api.Answer{N: lowest}, lowest, 1},
	{highest, load(1), api.Answer{N: highest}, highest, 1},
	{5, store(1, 7), api.Answer{}, 7, 1},
	{5, store(1, lowest), api.Answer{}, lowest, 1},
	{5, store(1, 0), api.Answer{}, 0, 1},
	{5, add(1, 7), api.Answer{N: 12}, 12, 1},
	{5, add(1, -7), api.Answer{N: -2}, -2, 1},
	{5, add(1, 0), api.Answer{N: 5}, 5, 1},
	{highest, add(1, 1), api.Answer{N: lowest}, lowest, 1},
	{highest, add(1, highest), api.Answer{N: -2}, -2, 1},
	{lowest, add(1, -1), api.Answer{N: highest}, highest, 1},
	{lowest, add(1, lowest), api.Answer{N: 0}, 0, 1},
	{5, swap(1, 7), api.Answer{N: 5}, 7, 1},
	{highest, swap(1, lowest), api.Answer{N: highest}, lowest, 1},
	{5, cas(1, 5, 7), api.Answer{Ok: true}, 7, 1},
	{5, cas(1, 7, 5), api.Answer{}, 5, 1},
	{5, cas(1, 4, 9), api.Answer{}, 5, 1},
	{5, cas(1, 6, 9), api.Answer{}, 5, 1},
	{5, cas(1, 5, 5), api.Answer{Ok: true}, 5, 1},
	{0, cas(1, 0, lowest), api.Answer{Ok: true}, lowest, 1},
	{lowest, cas(1, lowest, highest), api.Answer{Ok: true}, highest, 1},
	{lowest, cas(1, 0, 1), api.Answer{}, lowest, 1},
	{1 << 32, cas(1, 0, 1), api.Answer{}, 1 << 32, 1},
	{5, most(1, 4), api.Answer{N: 5}, 5, 1},
	{5, most(1, 5), api.Answer{N: 5}, 5, 1},
	{5, most(1, 6), api.Answer{N: 6}, 6, 2},
	{-5, most(1, 0), api.Answer{N: 0}, 0, 2},
	{lowest, most(1, lowest), api.Answer{N: lowest}, lowest, 1},
	{lowest, most(1, highest), api.Answer{N: highest}, highest, 2},
	{highest, most(1, lowest), api.Answer{N: highest}, highest, 1},
	{5, least(1, 6), api.Answer{N: 5}, 5, 1},
	{5, least(1, 5), api.Answer{N: 5}, 5, 1},
	{5, least(1, 4), api.Answer{N: 4}, 4, 2},
	{5, least(1, 0), api.Answer{N: 0}, 0, 2},
	{highest, least(1, highest), api.Answer{N: highest}, highest, 1},
	{highest, least(1, lowest), api.Answer{N: lowest}, lowest, 2},
	{lowest, least(1, highest), api.Answer{N: lowest}, lowest, 1},
	{5, load(-1), api.Answer{Err: api.ErrCellPlace}, 5, 1},
	{5, store(-1, 7), api.Answer{Err: api.ErrCellPlace}, 5, 1},
	{5, add(3, 7), api.Answer{Err: api.ErrCellPlace}, 5, 1},
	{5, swap(3, 7), api.Answer{Err: api.ErrCellPlace}, 5, 1},
	{5, cas(3, 5, 7), api.Answer{Err: api.ErrCellPlace}, 5, 1},
	{5, most(-1, 7), api.Answer{Err: api.ErrCellPlace}, 5, 1},
	{5, least(3, 3), api.Answer{Err: api.ErrCellPlace}, 5, 1},
}

func TestDeedsAlone(t *testing.T) {
	for _, d := range deeds {
		c := newCells(t, 3)
		c.Store(nil, 1, d.first)
		if a := byName(c, nil, d.call); !sameAnswer(a, d.answer) {
			t.Errorf("P4.2: at %d: %+v: %+v, want %+v", d.first, d.call, a, d.answer)
		}
		if l := c.Values(); !slices.Equal(l, []int{0, d.leaves, 0}) {
			t.Errorf("P4.2: at %d: %+v leaves %v", d.first, d.call, l)
		}
	}
}

// A worker of a run counts the lines of a call that is called by its name.
func TestDeedsByAWorker(t *testing.T) {
	for _, d := range deeds {
		c := newCells(t, 3)
		c.Store(nil, 1, d.first)
		run, _ := crew.Run(work([]api.Call{d.call}), does(func(w *crew.Worker, call api.Call) api.Answer {
			w.Step()
			return byName(c, w, call)
		}))
		if a := run.Answers[0][0]; !sameAnswer(a, d.answer) || a.Own != d.lines+1 {
			t.Errorf("P4.2: at %d: %+v: %+v, want %+v in %d lines", d.first, d.call, a, d.answer, d.lines)
		}
		if l := c.Values(); !slices.Equal(l, []int{0, d.leaves, 0}) {
			t.Errorf("P4.2: at %d: %+v leaves %v", d.first, d.call, l)
		}
	}
}

func TestDeedsPlayed(t *testing.T) {
	for _, d := range deeds {
		a := d.answer
		a.Begin, a.End, a.Own = 1, d.lines, d.lines
		wantPlay(t, "P4.3", 3, []int{0, d.first}, work([]api.Call{d.call}), api.Run{Steps: d.lines, Answers: [][]api.Answer{{a}}}, []int{0, d.leaves, 0})
	}
}

// Nothing of a line is done ahead of its step: till then a call finds what others lay there, and others find what was there.
func TestLinesAreDoneAtTheirSteps(t *testing.T) {
	for _, d := range deeds {
		for lines := range d.lines {
			c := newCells(t, 3)
			if lines == 0 {
				c.Store(nil, 1, 77)
			} else {
				c.Store(nil, 1, d.first)
			}
			var seen []int
			cs := work([]api.Call{d.call}, []api.Call{{}})
			cs.Turns = append(make([]int, 1+lines), 1)
			run, _ := crew.Run(cs, does(func(w *crew.Worker, call api.Call) api.Answer {
				w.Step()
				if w.Number() == 0 {
					return byName(c, w, call)
				}
				seen = c.Values()
				c.Store(nil, 1, d.first)
				return api.Answer{}
			}))
			if want := []int{77, d.first}[min(lines, 1)]; !slices.Equal(seen, []int{0, want, 0}) {
				t.Errorf("P4.2: at %d: %+v: ahead of line %d: %v", d.first, d.call, lines+1, seen)
			}
			if a := run.Answers[0][0]; !sameAnswer(a, d.answer) || c.Values()[1] != d.leaves {
				t.Errorf("P4.2: at %d: %+v: held up ahead of line %d: %+v, leaves %v", d.first, d.call, lines+1, a, c.Values())
			}
		}
	}
}

func TestNoPlace(t *testing.T) {
	for _, n := range []int{1, 3, api.MaxCells} {
		c := newCells(t, n)
		for i := range n {
			c.Store(nil, i, i+1)
		}
		was := c.Values()
		for _, i := range []int{math.MinInt, math.MinInt + 1, -1 << 32, -n, -1, n, n + 1, 1 << 32, 1<<32 + 1, math.MaxInt} {
			for kind := 1; kind <= 7; kind++ {
				a := byName(c, nil, api.Call{Kind: kind, A: i, B: 1, C: 5})
				if !sameAnswer(a, api.Answer{Err: api.ErrCellPlace}) {
					t.Errorf("P4.2: of %d cells: kind %d at %d: %+v", n, kind, i, a)
				}
				wantPlay(t, "P4.2", n, was, work([]api.Call{{Kind: kind, A: i, B: 1, C: 5}}), api.Run{Steps: 1, Answers: [][]api.Answer{
					{{Begin: 1, End: 1, Own: 1, Err: api.ErrCellPlace}},
				}}, was)
			}
		}
		if l := c.Values(); !slices.Equal(l, was) {
			t.Errorf("P4.2: refused calls changed something: %v", l)
		}
	}
}

func TestLastPlace(t *testing.T) {
	for _, n := range []int{1, 2, api.MaxCells} {
		for kind := 1; kind <= 7; kind++ {
			for _, i := range []int{0, n - 1} {
				c, m := newCells(t, n), newModel(n, nil)
				call := api.Call{Kind: kind, A: i, B: 0, C: 5}
				if a, want := byName(c, nil, call), m.alone(call); !sameAnswer(a, want) || !slices.Equal(c.Values(), m.cells) {
					t.Errorf("P4.2: of %d cells: %+v: %+v, want %+v", n, call, a, want)
				}
			}
		}
	}
}

func TestAloneAgainstModel(t *testing.T) {
	x := mixer(7)
	c, m := newCells(t, 4), newModel(4, nil)
	for range 20000 {
		call := x.call(4)
		if call.Kind < 1 || call.Kind > 7 {
			continue
		}
		if a, want := byName(c, nil, call), m.alone(call); !sameAnswer(a, want) {
			t.Fatalf("P4.2: %+v: %+v, want %+v", call, a, want)
		}
		if l := c.Values(); !slices.Equal(l, m.cells) {
			t.Fatalf("P4.2: behind %+v: %v, want %v", call, l, m.cells)
		}
	}
}

// Workers without turns lose nothing: each access is one.
func TestLooseWorkers(t *testing.T) {
	const often = 3000
	c := newCells(t, 5)
	var cs api.Case
	for range api.MaxWorkers {
		cs.Work = append(cs.Work, []api.Call{{}})
	}
	answers, _ := crew.Loose(cs, does(func(w *crew.Worker, _ api.Call) api.Answer {
		turned, swapped := 0, 0
		for i := range often {
			c.Add(w, 0, 1)
			c.Most(w, 1, i)
			c.Least(w, 2, -i)
			x, _ := c.Load(w, 3)
			if ok, _ := c.Cas(w, 3, x, x+1); ok {
				turned++
			}
			n, _ := c.Swap(w, 4, i+1)
			swapped += n
		}
		return api.Answer{N: turned, M: swapped}
	}))
	turned, swapped := 0, 0
	for _, list := range answers {
		turned += list[0].N
		swapped += list[0].M
	}
	l := c.Values()
	if l[0] != 8*often || l[1] != often-1 || l[2] != 1-often {
		t.Errorf("P4.2: loose: %v", l)
	}
	if l[3] < 1 || l[3] != turned {
		t.Errorf("P4.2: loose: a cell of %d, %d were turned", l[3], turned)
	}
	if all := 8 * often * (often + 1) / 2; swapped+l[4] != all {
		t.Errorf("P4.2: loose: %d were swapped out, %d is left, %d in all", swapped, l[4], all)
	}
}

func TestPlayRefuses(t *testing.T) {
	good := work([]api.Call{add(0, 1)})
	bad := api.Case{}
	five := []int{1, 2, 3, 4, 5}
	many := make([]int, 257)
	for _, x := range []struct {
		n     int
		first []int
		c     api.Case
		err   api.Errno
	}{
		{0, nil, good, api.ErrCellMany},
		{-1, nil, good, api.ErrCellMany},
		{math.MinInt, nil, good, api.ErrCellMany},
		{257, nil, good, api.ErrCellMany},
		{math.MaxInt, nil, good, api.ErrCellMany},
		{257, many, good, api.ErrCellMany},
		{256, many, good, api.ErrCellMany},
		{1, five, good, api.ErrCellMany},
		{4, five, good, api.ErrCellMany},
		{0, nil, bad, api.ErrCellMany},
		{257, nil, bad, api.ErrCellMany},
		{4, five, bad, api.ErrCellMany},
		{0, five, bad, api.ErrCellMany},
		{5, five, bad, api.ErrCrewCase},
		{1, nil, bad, api.ErrCrewCase},
		{1, nil, api.Case{Work: make([][]api.Call, 9)}, api.ErrCrewCase},
		{1, nil, work(nil, make([]api.Call, 65)), api.ErrCrewCase},
		{1, nil, api.Case{Work: good.Work, Until: -1}, api.ErrCrewCase},
		{1, nil, api.Case{Work: good.Work, Until: api.MaxSteps + 1}, api.ErrCrewCase},
	} {
		run, l, err := cell.Play(x.n, x.first, x.c)
		if err != x.err || !sameRun(run, api.Run{}) || len(l) > 0 {
			t.Errorf("P4.3: Play(%d, %d numbers, %+v): %+v, %v, %v, want %v", x.n, len(x.first), x.c, run, l, err, x.err)
		}
	}
}

func TestFirst(t *testing.T) {
	idle := work(nil)
	answers := api.Run{Answers: [][]api.Answer{nil}}
	for _, n := range []int{1, 2, 5, api.MaxCells} {
		for _, count := range []int{0, 1, n - 1, n} {
			first, want := make([]int, count), make([]int, n)
			for i := range first {
				first[i] = -i - 1
				want[i] = -i - 1
			}
			wantPlay(t, "P4.3: first", n, first, idle, answers, want)
		}
	}
	wantPlay(t, "P4.3: first", 3, nil, idle, answers, []int{0, 0, 0})
	wantPlay(t, "P4.3: first", 3, []int{}, idle, answers, []int{0, 0, 0})
	wantPlay(t, "P4.3: first", 3, []int{lowest, highest, 1 << 40}, idle, answers, []int{lowest, highest, 1 << 40})
	wantPlay(t, "P4.3: first", 3, []int{1, 2, 3, 4}[:2], idle, answers, []int{1, 2, 0})
}

func TestKindsThatCantBe(t *testing.T) {
	refused := api.Answer{Begin: 1, End: 1, Own: 1, Err: api.ErrCellCall}
	for _, kind := range []int{math.MinInt, -6, -1, 0, 8, 9, 100, 1<<32 + 1, math.MaxInt} {
		for _, place := range []int{-1, 0, 1, 2, math.MaxInt} {
			call := api.Call{Kind: kind, A: place, B: 3, C: 4, Pairs: []api.Pair{{Key: 1, Value: 2}}}
			wantPlay(t, "P4.3: a Kind that can't be", 2, []int{3, 3}, work([]api.Call{call}), api.Run{Steps: 1, Answers: [][]api.Answer{{refused}}}, []int{3, 3})
		}
	}
	then := work([]api.Call{{Kind: 8}, add(0, 1)})
	wantPlay(t, "P4.3: behind a refused call", 1, nil, then, api.Run{Steps: 2, Answers: [][]api.Answer{
		{refused, {Begin: 2, End: 2, Own: 1, N: 1}},
	}}, []int{1})
}

// What a call has no use for isn't looked at, nor answered.
func TestFieldsWithoutUse(t *testing.T) {
	rest := []api.Pair{{Key: 1, Value: 2}}
	c := work([]api.Call{
		{Kind: 1, A: 0, B: 9, C: 9, Pairs: rest},
		{Kind: 2, A: 0, B: 4, C: 9, Pairs: rest},
		{Kind: 3, A: 0, B: 1, C: 9, Pairs: rest},
		{Kind: 4, A: 0, B: 6, C: 9, Pairs: rest},
		{Kind: 6, A: 0, B: 5, C: 9, Pairs: rest},
		{Kind: 7, A: 0, B: 7, C: 2, Pairs: rest},
		{Kind: 5, A: 0, B: 6, C: 8, Pairs: rest},
	})
	wantPlay(t, "P4.3: fields", 1, []int{3}, c, api.Run{Steps: 7, Answers: [][]api.Answer{{
		{Begin: 1, End: 1, Own: 1, N: 3},
		{Begin: 2, End: 2, Own: 1},
		{Begin: 3, End: 3, Own: 1, N: 5},
		{Begin: 4, End: 4, Own: 1, N: 5},
		{Begin: 5, End: 5, Own: 1, N: 6},
		{Begin: 6, End: 6, Own: 1, N: 6},
		{Begin: 7, End: 7, Own: 1, Ok: true},
	}}}, []int{8})
}

func TestGreatestCase(t *testing.T) {
	var c api.Case
	for k := range api.MaxWorkers {
		var calls []api.Call
		for i := range api.MaxCalls {
			calls = append(calls, add(i, k+1))
		}
		c.Work = append(c.Work, calls)
	}
	c.Turns = []int{5, 3, 3, -1}
	_, values := wantModel(t, "P4.3: the greatest case", api.MaxCells, nil, c)
	for i, v := range values {
		if i < api.MaxCalls && v != 36 || i >= api.MaxCalls && v != 0 {
			t.Errorf("P4.6: cell %d: %d", i, v)
		}
	}
}

// bounds: Most and Least, of which one is the other one upside down.
var bounds = []struct {
	name string
	call func(i, v int) api.Call
	sign int
}{{"Most", most, 1}, {"Least", least, -1}}

func TestBoundsGoRound(t *testing.T) {
	for _, b := range bounds {
		for _, rounds := range []int{0, 1, 2, 3, 10, api.MaxCalls} {
			c := api.Case{Work: [][]api.Call{{b.call(0, 1000*b.sign)}, nil}}
			for i := range rounds {
				c.Work[1] = append(c.Work[1], store(0, (i+1)*b.sign))
				c.Turns = append(c.Turns, 0, 1, 0)
			}
			run, values, err := cell.Play(1, nil, c)
			a := run.Answers[0][0]
			if err != api.OK || a.Own != 2*rounds+2 || a.N != 1000*b.sign || values[0] != 1000*b.sign || run.Steps != 3*rounds+2 {
				t.Errorf("P4.6: %s, %d rounds: %+v, %v, %d steps", b.name, rounds, a, values, run.Steps)
			}
			c.Work[0][0].B = rounds * b.sign
			wantModel(t, "P4.2: "+b.name+" that finds enough", 1, nil, c)
		}
	}
}

// A bound that another one has overtaken answers what it finds then.
func TestBoundsOvertaken(t *testing.T) {
	for _, b := range bounds {
		c := work([]api.Call{b.call(0, 5*b.sign)}, []api.Call{store(0, 7*b.sign)})
		c.Turns = []int{0, 1, 0, 0}
		wantPlay(t, "P4.2: "+b.name, 1, nil, c, api.Run{Steps: 4, Answers: [][]api.Answer{
			{{Begin: 1, End: 4, Own: 3, N: 7 * b.sign}}, {{Begin: 2, End: 2, Own: 1}},
		}}, []int{7 * b.sign})
	}
}

// Between its two lines a bound is held up by a change alone: not by a load, a like number, a failed cas, or a number that was turned back.
func TestBoundsNotHeldUp(t *testing.T) {
	for _, b := range bounds {
		for _, between := range [][]api.Call{
			{load(0)}, {store(0, 0)}, {swap(0, 0)}, {add(0, 0)}, {cas(0, 1, 2)}, {cas(0, 0, 0)}, {store(1, 4)}, {add(0, 3), add(0, -3)}, {store(0, 9), store(0, 0)}, {store(-1, 4), {Kind: 9}},
		} {
			c := work([]api.Call{b.call(0, 5*b.sign)}, between)
			c.Turns = []int{0}
			for range between {
				c.Turns = append(c.Turns, 1)
			}
			run, values := wantModel(t, "P4.6: "+b.name, 2, nil, c)
			if a := run.Answers[0][0]; a.Own != 2 || a.End != len(between)+2 || values[0] != 5*b.sign {
				t.Errorf("P4.6: %s, between its lines %+v: %+v, %v", b.name, between, a, values)
			}
		}
	}
}

func TestHaltsAndCuts(t *testing.T) {
	for _, b := range bounds {
		v := 5 * b.sign
		loaded := api.Run{Steps: 1, Answers: [][]api.Answer{nil}, Open: []api.Open{{Worker: 0, Begin: 1, Own: 1}}}
		c := work([]api.Call{b.call(0, v), store(0, 1)})
		c.Halt = []int{1}
		wantPlay(t, "P4.5: halted behind its load: "+b.name, 1, nil, c, loaded, []int{0})
		c.Halt, c.Until = nil, 1
		loaded.Cut = true
		wantPlay(t, "P4.5: cut behind its load: "+b.name, 1, nil, c, loaded, []int{0})
		ended := api.Run{Steps: 2, Answers: [][]api.Answer{{{Begin: 1, End: 2, Own: 2, N: v}}}}
		c.Halt, c.Until = []int{2}, 0
		wantPlay(t, "P4.5: halted behind its cas: "+b.name, 1, nil, c, ended, []int{v})
		c.Halt, c.Until = nil, 2
		ended.Cut = true
		wantPlay(t, "P4.5: cut behind its cas: "+b.name, 1, nil, c, ended, []int{v})
	}
}

// A bound that is halted behind a cas that failed has changed nothing; who goes on doesn't wait for it.
func TestHaltedInALaterRound(t *testing.T) {
	for _, b := range bounds {
		for halt := 1; halt <= 4; halt++ {
			c := work([]api.Call{b.call(0, 9*b.sign)}, []api.Call{store(0, b.sign), b.call(0, 4*b.sign)})
			c.Turns = []int{0, 1, 0, 0, 0}
			c.Halt = []int{halt}
			run, values := wantModel(t, "P4.5: "+b.name, 1, nil, c)
			want, open := 4*b.sign, []api.Open{{Worker: 0, Begin: 1, Own: halt}}
			if halt == 4 {
				want, open = 9*b.sign, nil
			}
			if values[0] != want || !slices.Equal(run.Open, open) || len(run.Answers[1]) != 2 || run.Cut {
				t.Errorf("P4.5: %s, halted behind %d: %v, %+v", b.name, halt, values, run)
			}
		}
	}
}

func TestAgainstModel(t *testing.T) {
	rounds, opens, cuts := 0, 0, 0
	mixedPlays(6000, func(x mixed) {
		run, _ := wantModel(t, "P4.5", x.n, x.first, x.c)
		for _, answers := range run.Answers {
			for _, a := range answers {
				if a.Own > 2 {
					rounds++
				}
			}
		}
		opens += len(run.Open)
		if run.Cut {
			cuts++
		}
	})
	if rounds < 100 || opens < 100 || cuts < 100 {
		t.Errorf("the cases are too plain: %d went round, %d open, %d cut", rounds, opens, cuts)
	}
}

// Calls by their names, by the workers of a run, do the same lines as Play's.
func TestByNameAgainstModel(t *testing.T) {
	mixedPlays(2000, func(x mixed) {
		c := newCells(t, x.n)
		for i, v := range x.first {
			c.Store(nil, i, v)
		}
		got, _ := crew.Run(x.c, does(func(w *crew.Worker, call api.Call) api.Answer {
			if call.Kind < 1 || call.Kind > 7 {
				return api.Answer{Err: api.ErrCellCall}
			}
			return byName(c, w, call)
		}))
		want, values := newModel(x.n, x.first).play(x.c)
		if l := c.Values(); !sameRun(got, want) || !slices.Equal(l, values) {
			t.Fatalf("P4.2: %+v\ngot  %+v %v\nwant %+v %v", x, got, l, want, values)
		}
	})
}

// ended: a call that ended, and its answer.
type ended struct {
	call   api.Call
	answer api.Answer
}

func allEnded(c api.Case, run api.Run) []ended {
	var all []ended
	for k, answers := range run.Answers {
		for i, a := range answers {
			all = append(all, ended{c.Work[k][i], a})
		}
	}
	sort.Slice(all, func(i, j int) bool { return all[i].answer.End < all[j].answer.End })
	return all
}

// An open call is a bound that has stored nothing: so all calls that ended, each done alone at its last step, leave what the run leaves, and answer what they answered.
func TestEndedInTheirOrder(t *testing.T) {
	mixedPlays(3000, func(x mixed) {
		run, values, _ := cell.Play(x.n, x.first, x.c)
		m := newModel(x.n, x.first)
		for _, e := range allEnded(x.c, run) {
			if a := m.alone(e.call); !sameAnswer(a, e.answer) {
				t.Fatalf("P4.5: %+v: %+v: %+v, want %+v", x, e.call, e.answer, a)
			}
		}
		if !slices.Equal(values, m.cells) {
			t.Fatalf("P4.5: %+v: %v, want %v", x, values, m.cells)
		}
	})
}

func TestWorkersThatNeverMeet(t *testing.T) {
	x := mixer(11)
	for range 500 {
		c := api.Case{Work: make([][]api.Call, 4)}
		for k := range c.Work {
			for range x.below(7) {
				call := x.call(2)
				if call.A == 0 || call.A == 1 {
					call.A += 2 * k
				} else {
					call.A = 8
				}
				c.Work[k] = append(c.Work[k], call)
			}
		}
		for range x.below(40) {
			c.Turns = append(c.Turns, x.below(24))
		}
		run, values, _ := cell.Play(8, nil, c)
		for k := range c.Work {
			lone, left, _ := cell.Play(8, nil, work(c.Work[k]))
			if !slices.Equal(values[2*k:2*k+2], left[2*k:2*k+2]) {
				t.Fatalf("P4.5: worker %d of %+v: its cells %v, alone %v", k, c, values, left)
			}
			for i, a := range lone.Answers[0] {
				if got := run.Answers[k][i]; !sameAnswer(got, a) || got.Own != a.Own {
					t.Fatalf("P4.5: worker %d of %+v: %+v, alone %+v", k, c, got, a)
				}
			}
		}
	}
}

func TestAddsInEveryOrder(t *testing.T) {
	calls := [][]api.Call{{add(0, 1), add(0, 10)}, {add(0, 100), add(0, highest)}, {add(0, -7)}}
	orders(3, 5, func(turns []int) {
		_, values, _ := cell.Play(1, []int{5}, api.Case{Work: calls, Turns: turns})
		if values[0] != lowest+108 {
			t.Errorf("P4.6: turns %v: %v", turns, values)
		}
		run, values, _ := cell.Play(1, []int{5}, api.Case{Work: calls, Turns: turns, Halt: []int{1, 1}})
		if values[0] != 99 || len(run.Open) > 0 {
			t.Errorf("P4.6: turns %v, halted: %v", turns, values)
		}
	})
}

func TestMostsInEveryOrder(t *testing.T) {
	for _, b := range bounds {
		calls := [][]api.Call{{b.call(0, 5*b.sign), b.call(0, 6*b.sign)}, {b.call(0, 9*b.sign)}, {b.call(0, 7*b.sign)}}
		for first, want := range map[int]int{0: 9, -3: 9, 8: 9, 9: 9, 12: 12} {
			orders(3, 7, func(turns []int) {
				run, values, _ := cell.Play(1, []int{first * b.sign}, api.Case{Work: calls, Turns: turns})
				if values[0] != want*b.sign || run.Cut || len(run.Open) > 0 {
					t.Errorf("P4.6: %s, first %d, turns %v: %v", b.name, first, turns, values)
				}
			})
		}
	}
}

// From 0, and never back: of many one is turned at most; of those that all ended just one.
func TestCasFromNothing(t *testing.T) {
	calls := [][]api.Call{{cas(0, 0, 1), load(0), cas(0, 0, 4)}, {cas(0, 0, 2), load(0)}, {load(0), cas(0, 0, 3)}}
	orders(3, 7, func(turns []int) {
		run, values, _ := cell.Play(1, nil, api.Case{Work: calls, Turns: turns})
		count, who := 0, 0
		for _, e := range allEnded(api.Case{Work: calls}, run) {
			if e.answer.Ok {
				count++
				who = e.call.C
			}
		}
		if count != 1 || values[0] != who {
			t.Errorf("P4.6: turns %v: %d turned, %v", turns, count, values)
		}
	})
}

// A bound goes round just as often as others changed its cell between its load and its cas.
func TestRoundsAreChanges(t *testing.T) {
	calls := [][]api.Call{{most(0, 5)}, {store(0, 1), add(0, 1), load(0), store(0, 2)}, {most(0, 4)}}
	orders(3, 8, func(turns []int) {
		c := api.Case{Work: calls, Turns: turns}
		run, _ := wantModel(t, "P4.6", 1, nil, c)
		for _, k := range []int{0, 2} {
			a := run.Answers[k][0]
			changes := 0
			for _, e := range allEnded(c, run) {
				within := e.answer.End > a.Begin && e.answer.End < a.End
				if within && e.call.Kind != 1 && !(e.call.Kind == 6 && e.answer.Own%2 == 1) {
					changes++
				}
			}
			if again := (a.Own - 1) / 2; again > changes {
				t.Errorf("P4.6: turns %v: worker %d went round %d times, %d changes", turns, k, again, changes)
			}
		}
	})
}

func TestSameEachTime(t *testing.T) {
	mixedPlays(300, func(x mixed) {
		run, values, err := cell.Play(x.n, x.first, x.c)
		for range 5 {
			again, left, e := cell.Play(x.n, x.first, x.c)
			if !sameRun(run, again) || !slices.Equal(values, left) || e != err {
				t.Fatalf("P4.3: %+v\nonce %+v %v %v\nthen %+v %v %v", x, run, values, err, again, left, e)
			}
		}
	})
}

// roomy copies a list into one with spare room, in which something stands.
func roomy(list []int) []int {
	room := append(slices.Clone(list), 71, 72, 73)
	return room[:len(list)]
}

func TestPlayKeepsToItsOwnMemory(t *testing.T) {
	mixedPlays(300, func(x mixed) {
		first, c := roomy(x.first), plainCase(x.c)
		c.Turns, c.Halt = roomy(c.Turns), roomy(c.Halt)
		run, values, _ := cell.Play(x.n, first, c)
		if !slices.Equal(first[:cap(first)][len(first):len(first)+3], []int{71, 72, 73}) || !slices.Equal(first, x.first) {
			t.Fatalf("P4.3: Play changed first: %v", first[:cap(first)])
		}
		if !slices.Equal(c.Turns, x.c.Turns) || !slices.Equal(c.Halt, x.c.Halt) || !slices.Equal(c.Turns[:len(c.Turns)+3][len(c.Turns):], []int{71, 72, 73}) {
			t.Fatalf("P4.3: Play changed the case: %+v", c)
		}
		keptRun, kept := plainRun(run), slices.Clone(values)
		writeOver(first)
		writeOver(c.Turns)
		writeOver(c.Halt)
		for k := range c.Work {
			for i := range c.Work[k] {
				c.Work[k][i] = api.Call{Kind: -99}
			}
		}
		if !sameRun(run, keptRun) || !slices.Equal(values, kept) {
			t.Fatalf("P4.3: an answer hangs on what was handed in: %+v", x)
		}
		writeOver(values)
		if !sameRun(run, keptRun) {
			t.Fatalf("P4.3: a run hangs on the values: %+v", x)
		}
		wantPlay(t, "P4.3: behind answers that were written over", x.n, x.first, x.c, keptRun, kept)
	})
}

// stormModel: sums, greatest and least, one number behind the other.
func stormModel(work [][]int) [3]int {
	var s [3]int
	for _, list := range work {
		for _, v := range list {
			s = [3]int{s[0] + v, max(s[1], v), min(s[2], v)}
		}
	}
	return s
}

func wantStorm(t *testing.T, work [][]int, want [3]int) {
	t.Helper()
	a, b, c := cell.Storm(work)
	if got := [3]int{a, b, c}; got != want {
		t.Errorf("P4.4: Storm of %d lists: %v, want %v", len(work), got, want)
	}
}

func TestStormEdges(t *testing.T) {
	wantStorm(t, nil, [3]int{})
	wantStorm(t, [][]int{}, [3]int{})
	wantStorm(t, [][]int{nil}, [3]int{})
	wantStorm(t, [][]int{{}, nil, {}}, [3]int{})
	wantStorm(t, make([][]int, 1000), [3]int{})
	wantStorm(t, [][]int{{0}}, [3]int{})
	wantStorm(t, [][]int{{7}}, [3]int{7, 7, 0})
	wantStorm(t, [][]int{{-7}}, [3]int{-7, 0, -7})
	wantStorm(t, [][]int{{3, -5, 4}}, [3]int{2, 4, -5})
	wantStorm(t, [][]int{nil, {3}, {}, {-5, 4}}, [3]int{2, 4, -5})
	wantStorm(t, [][]int{{1}, {2, 3}, {4, 5, 6}, {-1}}, [3]int{20, 6, -1})
	wantStorm(t, [][]int{{highest}, {1}}, [3]int{lowest, highest, 0})
	wantStorm(t, [][]int{{lowest}, {-1}}, [3]int{highest, 0, lowest})
	wantStorm(t, [][]int{{lowest, highest}, {highest, lowest}}, [3]int{-2, highest, lowest})
}

func TestStormOfMany(t *testing.T) {
	m := mixer(3)
	for _, size := range [][2]int{{1, 5000}, {8, 4000}, {9, 100}, {256, 64}, {257, 65}, {3000, 3}} {
		work := make([][]int, size[0])
		for k := range work {
			for range size[1] {
				work[k] = append(work[k], m.below(1<<20)-1<<18)
			}
		}
		want := stormModel(work)
		for range 3 {
			wantStorm(t, work, want)
		}
	}
}

// All lists climb at once, so that bounds are in each other's way.
func TestStormClimbs(t *testing.T) {
	work := make([][]int, 16)
	for i := range 4000 {
		for k := range work {
			work[k] = append(work[k], i*(1-k%2*2))
		}
	}
	wantStorm(t, work, [3]int{0, 3999, -3999})
}

// While a Storm is under way there are many goroutines at once.
func TestStormAtOnce(t *testing.T) {
	work := make([][]int, 64)
	for k := range work {
		work[k] = make([]int, 50000)
	}
	before := runtime.NumGoroutine()
	over := make(chan struct{})
	most := make(chan int)
	go func() {
		n := 0
		for {
			select {
			case <-over:
				most <- n
				return
			default:
				n = max(n, runtime.NumGoroutine())
				time.Sleep(10 * time.Microsecond)
			}
		}
	}()
	wantStorm(t, work, [3]int{})
	close(over)
	if n := <-most; n < before+10 {
		t.Errorf("P4.4: %d goroutines at once, %d ahead of it", n, before)
	}
}

// The lists are their owner's again when a Storm has answered; nothing of it goes on.
func TestStormLeavesNothing(t *testing.T) {
	before := runtime.NumGoroutine()
	work := make([][]int, 50)
	for k := range work {
		work[k] = roomy([]int{k, -k, 1})
	}
	for range 20 {
		wantStorm(t, work, [3]int{50, 49, -49})
		for k := range work {
			if room := work[k][:6]; !slices.Equal(room, []int{k, -k, 1, 71, 72, 73}) {
				t.Fatalf("P4.4: Storm changed a list: %v", room)
			}
			work[k] = roomy([]int{k, -k, 1})
		}
		list := [][]int{{1, 2, 3}, {4}}
		cell.Storm(list)
		writeOver(list[0])
		writeOver(list[1])
	}
	for range 500 {
		if runtime.NumGoroutine() <= before {
			return
		}
		time.Sleep(time.Millisecond)
	}
	t.Errorf("P4.4: %d goroutines, %d ahead of it", runtime.NumGoroutine(), before)
}

func TestPlayLeavesNothing(t *testing.T) {
	before := runtime.NumGoroutine()
	mixedPlays(200, func(x mixed) { cell.Play(x.n, x.first, x.c) })
	for range 500 {
		if runtime.NumGoroutine() <= before {
			return
		}
		time.Sleep(time.Millisecond)
	}
	t.Errorf("P4.3: %d goroutines, %d ahead of it", runtime.NumGoroutine(), before)
}
