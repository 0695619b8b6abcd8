package gust_test

import (
	"slices"
	"testing"

	"skein/api"
	"skein/gust"
	"skein/judge"
)

// report: what is told of a plan that was done.
func (b blown) report() api.Report { return gust.Report(b.store, b.p, b.events) }

// pairs: those of a plan's last round, rising.
func (b blown) pairs() []api.Pair {
	var list []api.Pair
	for k := range b.p.Workers {
		for i := range b.p.Keys {
			if v := b.valueOf(b.p.Rounds-1, k, i); v%4 != 0 {
				list = append(list, api.Pair{Key: b.keyOf(k, i), Value: v})
			}
		}
	}
	slices.SortFunc(list, func(x, y api.Pair) int { return x.Key - y.Key })
	return list
}

// wantReport asks for a report's pairs and numbers.
func wantReport(t *testing.T, what string, is api.Report, pairs []api.Pair, events, blames, faults, used, waiting int) {
	t.Helper()
	want := api.Report{Pairs: pairs, Events: events, Blames: blames, Faults: faults, Used: used, Waiting: waiting}
	if !slices.Equal(is.Pairs, pairs) || is.Events != events || is.Blames != blames || is.Faults != faults || is.Used != used || is.Waiting != waiting {
		t.Errorf("P21.4: %s: %+v, want %+v", what, is, want)
	}
}

// small: a plan of two parts, three pairs in each: 2 and 5 and 5 slots; v is 1, 2, 8 (a Drop), 9 in the one, 15, 16 (a Drop), 22, 23 in the other one.
func small(t *testing.T) blown { return blow(t, plan(2, 2, 1, 4, 1), slots, nil) }

// P21.4: what is told when nothing went wrong; again it tells the same.
func TestReport(t *testing.T) {
	for _, p := range plans() {
		b := blow(t, p, slots, nil)
		used := 0
		for _, x := range b.store.Pool().Slots() {
			used += x.Gen % 2
		}
		if p.Rounds == 0 {
			wantReport(t, "without rounds", b.report(), nil, 0, 0, 0, 0, 0)
			continue
		}
		for range 2 {
			wantReport(t, "a plan", b.report(), b.pairs(), p.Workers*p.Rounds*(p.Keys+2), 0, 0, used, 0)
		}
	}
	b := small(t)
	wantReport(t, "the small one", b.report(), b.pairs(), 12, 0, 0, 12, 0)
}

// Pairs are all that the map holds, not those of the plan alone.
func TestReportOfOtherKeys(t *testing.T) {
	b := small(t)
	b.store.Put(nil, 7, 70)
	b.store.Put(nil, 1<<32-1, 71)
	l := slices.Insert(b.pairs(), 1, api.Pair{Key: 7, Value: 70})
	l = append(l, api.Pair{Key: 1<<32 - 1, Value: 71})
	if is := b.report(); !slices.Equal(is.Pairs, l) {
		t.Errorf("P21.4: %v, want %v", is.Pairs, l)
	}
	for _, x := range l {
		b.store.Drop(nil, x.Key)
	}
	if is := b.report(); len(is.Pairs) != 0 {
		t.Errorf("P21.4: %v", is.Pairs)
	}
}

// Events and Blames are told of the events, Faults, Used and Waiting of the map.
func TestReportOfWrongs(t *testing.T) {
	b := small(t)
	spoilt := b
	spoilt.events = slices.Clone(b.events)
	for i := range spoilt.events {
		spoilt.events[i].Number += 50
	}
	blames, _ := judge.Versions(make([][]api.Pair, 2), spoilt.events)
	if len(blames) == 0 {
		t.Fatal("nothing is blamed")
	}
	wantReport(t, "spoilt events", spoilt.report(), b.pairs(), 12, len(blames), 0, 12, 0)
	spoilt.events = b.events[:5]
	blames, _ = judge.Versions(make([][]api.Pair, 2), spoilt.events)
	wantReport(t, "few events", spoilt.report(), b.pairs(), 5, len(blames), 0, 12, 0)

	h, _ := b.store.Pool().Take(nil, api.Node{}, 0)
	wantReport(t, "a slot that nobody gives back", b.report(), b.pairs(), 12, 0, 0, 13, 0)
	b.store.Epoch().Retire(nil, h)
	b.store.Epoch().Retire(nil, 5)
	wantReport(t, "two that wait", b.report(), b.pairs(), 12, 0, 0, 13, 2)
	b.store.Pool().Give(nil, h)
	b.store.Pool().Read(nil, h)
	wantReport(t, "a fault", b.report(), b.pairs(), 12, 0, 1, 12, 2)
}

// What waits is told of every worker.
func TestReportOfAllThatWaits(t *testing.T) {
	b := blow(t, plan(1, 8, 1, 1, 1), slots, func(c call, nth int) api.Errno {
		if c.name == "Collect" {
			return other // nobody gives anything back
		}
		return api.OK
	})
	waits := 0
	for k := range 8 {
		waits += len(b.store.Epoch().Waiting(k))
	}
	if is := b.report(); waits == 0 || is.Waiting != waits || is.Used != 12+waits {
		t.Errorf("P21.4: %+v, %d wait", is, waits)
	}
	more := b.store.Epoch().Waiting(0)
	for _, h := range more {
		b.store.Pool().Give(nil, h)
	}
	if is := b.report(); is.Waiting != waits || is.Used != 12+waits-len(more) {
		t.Errorf("P21.4: %+v, %d wait, %d of them were given back", is, waits, len(more))
	}
}

// A tree that was given back: faults are told, and no pair that can't be read.
func TestReportOfATreeThatIsGone(t *testing.T) {
	b := small(t)
	x, _ := b.store.Snap(nil)
	root, _, _ := b.store.View(nil, x, 0)
	b.store.Free(nil, x)
	b.store.Pool().Give(nil, root)
	wantReport(t, "the first part's root", b.report(), b.pairs()[3:], 12, 0, 1, 11, 0)
}
