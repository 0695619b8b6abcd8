package judge_test

import (
	"math"
	"slices"
	"testing"

	"skein/api"
	"skein/judge"
)

// one: a map of one part, in which 5 is 50; two: of two parts, in the first one 5 is 50, in the second one 8 is 80.
func one() [][]api.Pair { return [][]api.Pair{pairs(5, 50)} }
func two() [][]api.Pair { return [][]api.Pair{pairs(5, 50), pairs(8, 80)} }

// P20.5, example 2.
func TestExamplesOfVersions(t *testing.T) {
	w := during(1, 4, write(5, 2, 50, 51))
	wantBlames(t, "example 2", one(), []api.Event{w, during(2, 3, read(5, 1, 50))})
	wantBlames(t, "example 2", one(), []api.Event{w, during(5, 6, read(5, 1, 50))}, blame{1, 0, 5})
	wantBlames(t, "example 2", one(), []api.Event{w, during(5, 6, read(5, 2, 50))}, blame{1, -1, 4})
	wantBlames(t, "example 2", one(), []api.Event{w, during(5, 6, read(5, 3, 50))}, blame{1, -1, 3})
}

// P20.5: how many lists, how many events.
func TestLimitsOfVersions(t *testing.T) {
	right := during(1, 1, read(5, 1, 50))
	for _, parts := range []int{0, 1, 2, 63, 64, 65, 200} {
		for _, events := range []int{0, 1, 1023, 1024, 1025, 3000} {
			start := slices.Repeat(one(), parts)
			l := slices.Repeat([]api.Event{right}, events)
			want := api.OK
			if parts < 1 || parts > 64 || events > 1024 {
				want = 201
			}
			blames, err := judge.Versions(start, l)
			if err != want || len(blames) != 0 {
				t.Errorf("P20.5: Versions of %d lists, %d events: %v, %d, want %d", parts, events, blames, err, want)
			}
			// Also beside what would be blamed.
			blames, err = judge.Versions(start, make([]api.Event, events))
			if err != want || err == 0 && len(blames) != events || err != 0 && len(blames) != 0 {
				t.Errorf("P20.5: Versions of %d lists, %d events that aren't right: %d blames, %d, want %d", parts, events, len(blames), err, want)
			}
		}
	}
	wantBlames(t, "P20.5", [][]api.Pair{nil}, nil)
	wantBlames(t, "P20.5", [][]api.Pair{{}}, []api.Event{})
	wantBlames(t, "P20.5: no pairs", [][]api.Pair{nil}, []api.Event{during(1, 1, lacks(5, 1))})
}

// P20.3: which events are right, field by field, and Why 1.
func TestRightEvents(t *testing.T) {
	least, greatest := math.MinInt, math.MaxInt
	kinds := map[string]api.Event{
		"Read": of(1, read(8, 1, 80)), "Write": of(1, write(8, 2, 80, 81)), "Same": of(1, same(8, 1, 80)),
		"Batch": of(1, batch(2, 8, 81)), "Snap": snap(1, 1),
	}
	for name, e := range kinds {
		isSnap := e.Kind == api.Snapshot
		wantRight := func(what string, ok bool, e api.Event) {
			t.Helper()
			if ok {
				wantBlames(t, "P20.3: "+name+", "+what, two(), []api.Event{e})
				return
			}
			wantBlames(t, "P20.5: "+name+", "+what, two(), []api.Event{e}, blame{0, -1, 1})
		}
		for _, begin := range []int{least, -1, 0, 1, 2, greatest - 1, greatest} {
			for _, end := range []int{least, -1, 0, 1, 2, 3, greatest - 1, greatest} {
				wantRight("times", begin >= 1 && (end == 0 || end >= begin), during(begin, end, e))
			}
		}
		e = during(3, 5, e)
		for _, part := range []int{least, -1, 2, 3, 64, greatest} {
			wantRight("part", false, of(part, e))
			wantRight("part, open", false, of(part, during(3, 0, e)))
		}
		if isSnap {
			wantRight("part 1", false, of(1, e))
			wantRight("part 1, open", false, of(1, during(3, 0, e)))
		}
		for _, kind := range []int{least, -1, 0, 6, 7, greatest} {
			wrong := e
			wrong.Kind = kind
			wantRight("kind", false, wrong)
			wantRight("kind, open", false, during(3, 0, wrong))
		}
		for _, n := range []int{least, -1, 0, 1} {
			numbered := e
			numbered.Number = n
			wantRight("number", isSnap || n >= 1 && !publishes(e), numbered)
			wantRight("number, open", true, during(3, 0, numbered))
		}
		for _, list := range [][]int{nil, {1}, {1, 1, 1}, {1, 0}, {0, 1}, {-1, 1}, {least, 1}, {1, least}, make([]int, 64)} {
			shown := e
			shown.Numbers = list
			wantRight("numbers", !isSnap, shown)
			wantRight("numbers, open", true, during(3, 0, shown))
		}
	}
}

// P20.3: a Snap's numbers at as many parts as there may be.
func TestNumbersOfSnaps(t *testing.T) {
	for _, parts := range []int{1, 2, 63, 64} {
		start := make([][]api.Pair, parts)
		for n := range 66 {
			ones := slices.Repeat([]int{1}, n)
			l := []api.Event{during(1, 1, snap(ones...))}
			if n != parts {
				wantBlames(t, "P20.3", start, l, blame{0, -1, 1})
				continue
			}
			wantBlames(t, "P20.3", start, l)
			for part := range n {
				wrong := slices.Clone(ones)
				wrong[part] = 0
				wantBlames(t, "P20.3", start, []api.Event{during(1, 1, snap(wrong...))}, blame{0, -1, 1})
			}
		}
	}
}

// P20.5: an event that isn't right is looked at no further, by no other Why, and stands for nothing beside others.
func TestWrongEventsAreNotLookedAt(t *testing.T) {
	spoil := map[string]func(e *api.Event){
		"Begin": func(e *api.Event) { e.Begin = 0 },
		"Begin behind its End": func(e *api.Event) {
			if e.End != 0 {
				e.Begin = e.End + 1
			} else {
				e.Begin = -1
			}
		},
		"Kind": func(e *api.Event) { e.Kind += 10 },
		"Part": func(e *api.Event) { e.Part = 9 },
	}
	for name, c := range map[string]struct {
		l     []api.Event // without spoiling the first one: want; with it: behind
		want  []blame
		after []blame
	}{
		"Why 2":            {behind(write(5, 2, 50, 51), write(5, 2, 50, 51)), []blame{{0, -1, 3}, {1, -1, 3}, {1, 0, 2}, {1, 0, 5}}, []blame{{0, -1, 1}}},
		"Why 3":            {behind(read(5, 2, 50)), []blame{{0, -1, 3}}, []blame{{0, -1, 1}}},
		"Why 3, it tells":  {behind(write(5, 2, 50, 51), read(5, 2, 51)), nil, []blame{{0, -1, 1}, {1, -1, 3}}},
		"Why 3, it's open": {[]api.Event{during(1, 0, write(5, 2, 50, 51)), during(1, 1, read(5, 2, 51))}, nil, []blame{{0, -1, 1}, {1, -1, 3}}},
		"Why 4":            {behind(read(5, 1, 51)), []blame{{0, -1, 4}}, []blame{{0, -1, 1}}},
		"Why 5":            {behind(write(5, 2, 50, 51), read(5, 1, 50)), []blame{{1, 0, 5}}, []blame{{0, -1, 1}}},
		"Why 6":            {behind(write(5, 2, 50, 51), snap(1, 1)), []blame{{1, 0, 6}}, []blame{{0, -1, 1}}},
		"Why 6, the Snap":  {behind(snap(2, 1), write(5, 2, 50, 51)), []blame{{1, 0, 6}}, []blame{{0, -1, 1}}},
		"Why 7":            {behind(snap(2, 2), snap(1, 2)), []blame{{1, 0, 7}}, []blame{{0, -1, 1}}},
	} {
		wantBlames(t, "P20.5: "+name, two(), c.l, c.want...)
		for field, f := range spoil {
			l := slices.Clone(c.l)
			f(&l[0])
			wantBlames(t, "P20.5: "+name+", "+field+" of the first one isn't right", two(), l, c.after...)
		}
	}
}

// P20.3: of an open event nothing is looked at but Kind, Part and Begin.
func TestOpenEvents(t *testing.T) {
	wild := api.Event{
		Worker: -3, Key: -1, Number: math.MinInt, Had: true, Value: 9, Has: true, New: 8, Numbers: []int{-5, 0, 7}, Pairs: pairs(-1, -1),
	}
	closed := behind(write(5, 2, 50, 51), read(5, 2, 51), snap(2, 1), same(5, 2, 51))
	for kind := 1; kind <= 5; kind++ {
		for _, number := range []int{math.MinInt, -1, 0, 1, 2, 3, math.MaxInt} {
			for _, begin := range []int{1, 4, 100, math.MaxInt} {
				e := wild
				e.Kind, e.Number, e.Begin = kind, number, begin
				wantBlames(t, "P20.3: an open one behind", two(), append(slices.Clone(closed), e))
				wantBlames(t, "P20.3: an open one ahead", two(), append([]api.Event{e}, closed...))
				wantBlames(t, "P20.3: two open ones", two(), append([]api.Event{e, e}, closed...))
			}
		}
	}
}

// P20.3: who did it isn't looked at.
func TestWorkersOfEvents(t *testing.T) {
	for _, worker := range []int{math.MinInt, -1, 0, 7, 8, math.MaxInt} {
		l := append(meanwhile(write(5, 2, 50, 51), read(5, 2, 51), read(5, 3, 51), snap(2, 1), api.Event{}), during(20, 21, read(5, 1, 50)))
		for i := range l {
			l[i].Worker = worker
		}
		wantBlames(t, "P20.5", two(), l, blame{2, -1, 3}, blame{4, -1, 1}, blame{5, 0, 5}, blame{5, 1, 5}, blame{5, 2, 5})
	}
}

// P20.4: start is version 1: the last pair of a key counts.
func TestStart(t *testing.T) {
	start := [][]api.Pair{pairs(5, 50, 6, 60, 5, 51, 7, 70, 5, 52), nil, pairs(math.MinInt, math.MaxInt, math.MaxInt, math.MinInt, -1, 0)}
	wantBlames(t, "P20.4", start, meanwhile(
		read(5, 1, 52), read(6, 1, 60), read(7, 1, 70), lacks(8, 1), of(1, lacks(5, 1)),
		of(2, read(math.MinInt, 1, math.MaxInt)), of(2, read(math.MaxInt, 1, math.MinInt)), of(2, read(-1, 1, 0)), of(2, lacks(5, 1)),
	))
	wantBlames(t, "P20.4", start, meanwhile(read(5, 1, 50), read(5, 1, 51), lacks(5, 1), of(1, read(5, 1, 52)), of(2, lacks(-1, 1)), of(2, read(-1, 1, 1))),
		blame{0, -1, 4}, blame{1, -1, 4}, blame{2, -1, 4}, blame{3, -1, 4}, blame{4, -1, 4}, blame{5, -1, 4})
}

// P20.4: what Writes and Batches make of a version.
func TestVersionsThatAreMade(t *testing.T) {
	dropped := drops(5, 2, 50)
	dropped.New = 99
	for name, c := range map[string]struct {
		by   []api.Event
		good []api.Event
		bad  []api.Event
	}{
		"a Write": {
			[]api.Event{write(5, 2, 50, 51)},
			[]api.Event{read(5, 2, 51), read(5, 1, 50), same(5, 2, 51), lacks(6, 2)},
			[]api.Event{read(5, 2, 50), lacks(5, 2), read(5, 1, 51), same(5, 2, 50), read(6, 2, 51)},
		},
		"a Write of another key": {
			[]api.Event{lays(6, 2, 60)},
			[]api.Event{read(5, 2, 50), read(6, 2, 60), lacks(6, 1)},
			[]api.Event{lacks(5, 2), lacks(6, 2), read(6, 1, 60)},
		},
		"a Write of 0": {
			[]api.Event{write(5, 2, 50, 0)},
			[]api.Event{read(5, 2, 0)},
			[]api.Event{lacks(5, 2), read(5, 2, 50)},
		},
		"a Write that takes away, New isn't looked at": {
			[]api.Event{dropped},
			[]api.Event{lacks(5, 2), read(5, 1, 50)},
			[]api.Event{read(5, 2, 99), read(5, 2, 50), read(5, 2, 0)},
		},
		"a Write that takes away what isn't there": {
			[]api.Event{{Kind: api.Write, Key: 6, Number: 2}},
			[]api.Event{lacks(6, 2), read(5, 2, 50)},
			[]api.Event{read(6, 2, 0), lacks(5, 2)},
		},
		"a Write that changes nothing": {
			[]api.Event{write(5, 2, 50, 50)},
			[]api.Event{read(5, 2, 50)},
			[]api.Event{read(5, 2, 51)},
		},
		"away and back again": {
			[]api.Event{drops(5, 2, 50), lays(5, 3, 53)},
			[]api.Event{read(5, 1, 50), lacks(5, 2), read(5, 3, 53)},
			[]api.Event{read(5, 2, 50), read(5, 3, 50), lacks(5, 3)},
		},
		"a Batch": {
			[]api.Event{batch(2, 6, 60, 5, 51)},
			[]api.Event{read(5, 2, 51), read(6, 2, 60), read(5, 1, 50), lacks(6, 1), lacks(7, 2)},
			[]api.Event{read(5, 2, 50), lacks(6, 2)},
		},
		"a Batch with a key twice": {
			[]api.Event{batch(2, 5, 1, 6, 2, 5, 3)},
			[]api.Event{read(5, 2, 3), read(6, 2, 2)},
			[]api.Event{read(5, 2, 1), read(5, 2, 50)},
		},
		"a Batch of no pairs": {
			[]api.Event{batch(2)},
			[]api.Event{read(5, 2, 50), lacks(6, 2)},
			[]api.Event{lacks(5, 2), read(5, 2, 0)},
		},
		"a Batch, whose other fields aren't looked at": {
			[]api.Event{{Kind: api.Batch, Number: 2, Key: 5, Had: true, Value: 7, Has: true, New: 8, Pairs: pairs(6, 60), Numbers: []int{0}}},
			[]api.Event{read(5, 2, 50), read(6, 2, 60)},
			[]api.Event{read(5, 2, 8), read(5, 2, 7)},
		},
		"a Write, whose Pairs aren't looked at": {
			[]api.Event{{Kind: api.Write, Number: 2, Key: 5, Had: true, Value: 50, Has: true, New: 51, Pairs: pairs(6, 60), Numbers: []int{0}}},
			[]api.Event{read(5, 2, 51), lacks(6, 2)},
			[]api.Event{read(6, 2, 60)},
		},
		"the greatest and the least": {
			[]api.Event{lays(math.MinInt, 2, math.MaxInt), batch(3, math.MaxInt, math.MinInt, -1, -1), write(math.MinInt, 4, math.MaxInt, 0)},
			[]api.Event{read(math.MinInt, 3, math.MaxInt), read(math.MaxInt, 3, math.MinInt), read(-1, 4, -1), read(math.MinInt, 4, 0), lacks(-1, 2)},
			[]api.Event{lacks(math.MinInt, 2), read(math.MaxInt, 4, math.MaxInt), lacks(math.MinInt, 4)},
		},
	} {
		l := append(meanwhile(c.by...), meanwhile(c.good...)...)
		wantBlames(t, "P20.4: "+name, one(), l)
		slices.Reverse(l)
		wantBlames(t, "P20.4: "+name+", the other way round", one(), l)
		l = append(meanwhile(c.by...), meanwhile(c.bad...)...)
		var want []blame
		for i := range c.bad {
			want = append(want, blame{len(c.by) + i, -1, 4})
		}
		wantBlames(t, "P20.4: "+name, one(), l, want...)
	}
}

// P20.4: parts have versions of their own.
func TestPartsApart(t *testing.T) {
	l := meanwhile(write(5, 2, 50, 51), of(1, read(8, 1, 80)), of(1, lacks(5, 1)), read(5, 2, 51), of(1, drops(8, 2, 80)), of(1, lacks(8, 2)), lacks(8, 2))
	wantBlames(t, "P20.4", two(), l)
	wantBlames(t, "P20.4", two(), meanwhile(write(5, 2, 50, 51), of(1, read(8, 2, 80))), blame{1, -1, 3})
	wantBlames(t, "P20.4", two(), meanwhile(write(5, 2, 50, 51), of(1, read(5, 1, 50)), of(1, write(5, 2, 50, 51))), blame{1, -1, 4}, blame{2, -1, 4})
	wantBlames(t, "P20.5: one Number of two parts", two(), behind(write(5, 2, 50, 51), of(1, write(8, 2, 80, 81))))
	last := make([][]api.Pair, 64)
	last[63] = pairs(5, 50)
	wantBlames(t, "P20.4", last, meanwhile(of(63, write(5, 2, 50, 51)), of(63, read(5, 2, 51)), of(62, lacks(5, 1)), of(62, read(5, 2, 50))), blame{3, -1, 3})
}
