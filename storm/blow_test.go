package storm_test

import (
	"runtime"
	"slices"
	"testing"

	"skein/api"
	"skein/storm"
)

// The chapter's examples.
func TestExamples(t *testing.T) {
	p := plan(1, 1, 1, 2, 3)
	want := api.Report{Pairs: []api.Pair{{Key: 0, Value: 3}, {Key: 2147483648, Value: 10}}, Events: 4, Used: 4}
	if r, err := storm.Blow(p); err != api.OK || !same(r, want) {
		t.Errorf("P21.5: Blow(%+v): %+v, %v, want %+v", p, r, err, want)
	}
	p.Rounds = 0
	if r, err := storm.Blow(p); err != api.OK || !same(r, api.Report{}) {
		t.Errorf("P21.5: Blow(%+v): %+v, %v", p, r, err)
	}
	p = plan(1, 1, 1, 17, 3)
	if r, err := storm.Blow(p); err != noPlan || !same(r, api.Report{}) {
		t.Errorf("P21.1: Blow(%+v): %+v, %v", p, r, err)
	}
	if l, err := storm.Final(p); err != noPlan || len(l) != 0 {
		t.Errorf("P21.1: Final(%+v): %v, %v", p, l, err)
	}
}

// Reports by numbers worked out by hand: parts with none of the pairs, with one, with many.
func TestReportsByHand(t *testing.T) {
	for _, c := range []struct {
		p                   api.Storm
		pairs, events, used int
	}{
		{plan(1, 1, 1, 1, 3), 1, 3, 2}, // a version and a leaf
		{plan(1, 1, 1, 1, 4), 0, 3, 1}, // a version of no pairs
		{plan(1, 1, 1, 16, 3), 12, 18, 1 + 23},
		{plan(64, 1, 1, 16, 3), 12, 18, 64 + 12}, // each pair in a part of its own
		{plan(64, 1, 1, 1, 4), 0, 3, 64},
		{plan(2, 1, 1, 4, 3), 3, 6, 2 + 3 + 1}, // 3, 10, 17, 24: a Drop
		{plan(3, 1, 1, 2, 3), 2, 4, 3 + 1 + 1}, // the part 2 has no pair
		{plan(2, 8, 1, 1, 1), 6, 24, 2 + 5 + 5},
		{plan(1, 8, 1, 1, 1), 6, 24, 1 + 11},
		{plan(64, 8, 1, 16, 1), 96, 144, 64 + 32 + 32*3}, // two keys a part, v of the one is one more than the other one's: in every other part one is dropped
		{plan(64, 8, 0, 16, 1), 0, 0, 0},
	} {
		if len(reckoned(c.p)) != c.pairs || usedBy(c.p) != c.used {
			t.Errorf("P21.5: %+v: the model tells %d pairs, %d used", c.p, len(reckoned(c.p)), usedBy(c.p))
		}
		for range 5 {
			r, err := storm.Blow(c.p)
			if err != api.OK || len(r.Pairs) != c.pairs || r.Events != c.events || r.Used != c.used || r.Blames != 0 || r.Faults != 0 || r.Waiting != 0 {
				t.Errorf("P21.5: Blow(%+v): %+v, %v, want %+v", c.p, r, err, c)
			}
		}
	}
}

// Without rounds nobody comes to any part.
func TestWithoutRounds(t *testing.T) {
	for _, parts := range []int{1, 2, mostParts} {
		for workers := 1; workers <= mostWorkers; workers++ {
			for _, keys := range []int{1, mostKeys} {
				p := plan(parts, workers, 0, keys, 3)
				if r, err := storm.Blow(p); err != api.OK || !same(r, api.Report{}) {
					t.Fatalf("P21.5: Blow(%+v): %+v, %v", p, r, err)
				}
				wantFinal(t, "P21.5", p)
			}
		}
	}
}

// Every small plan.
func TestSmallPlans(t *testing.T) {
	for _, parts := range []int{1, 2, 3, 7, mostParts} {
		for workers := 1; workers <= mostWorkers; workers++ {
			if testing.Short() && workers > 2 && workers < mostWorkers {
				continue
			}
			for rounds := range 4 {
				for _, keys := range []int{1, 2, 3, 5} {
					wantBlow(t, "P21.5", 1, plan(parts, workers, rounds, keys, parts+workers-rounds*keys))
				}
			}
		}
	}
}

// great: plans with as many events as can be, or nearly.
func great() []api.Storm {
	var list []api.Storm
	for _, parts := range []int{1, 2, 5, mostParts} {
		list = append(list,
			plan(parts, 8, 8, 14, 3),  // 1024
			plan(parts, 8, 7, 16, 2),  // 1008
			plan(parts, 8, 16, 6, 1),  // 1024
			plan(parts, 8, 20, 4, 0),  // 960
			plan(parts, 8, 20, 1, -5), // 480
			plan(parts, 4, 16, 14, 6), // 1024
			plan(parts, 2, 20, 16, 7), // 720
			plan(parts, 1, 20, 16, 1), // 360
		)
	}
	return list
}

// P21.5, P32.9: of many plans, each blown often, the report is the one that the plan tells.
func TestGreatPlans(t *testing.T) {
	often := 12
	if testing.Short() {
		often = 1
	}
	for _, p := range great() {
		wantBlow(t, "P21.5, P32.9", often, p)
	}
}

// Mixed plans.
func TestMixedPlans(t *testing.T) {
	takesLong(t)
	var m mixer = 21
	for range 300 {
		p := m.plan()
		wantFinal(t, "P21.4", p)
		wantBlow(t, "P21.5, P32.9", 2, p)
	}
}

// On few processors and on many the workers meet in other ways: who is put aside within, or with a lease, keeps the others from giving back, till the pool is full; or in the midst of a loading, and others find a part busy.
func TestOnSoManyProcessors(t *testing.T) {
	takesLong(t)
	for _, processors := range []int{1, 2, 3, 16} {
		was := runtime.GOMAXPROCS(processors)
		for _, p := range []api.Storm{plan(1, 8, 7, 16, 3), plan(1, 8, 8, 14, 1), plan(mostParts, 8, 7, 16, 3), plan(3, 8, 20, 4, 2)} {
			wantBlow(t, "P21.5, P32.9", 15, p)
		}
		runtime.GOMAXPROCS(was)
	}
}

// Pairs are Final's, asked of the program itself; they rise.
func TestPairsAreFinals(t *testing.T) {
	var m mixer = 8
	for range 40 {
		p := m.plan()
		l := final(t, p)
		r, err := storm.Blow(p)
		if err != api.OK || !slices.Equal(r.Pairs, l) || !slices.IsSortedFunc(r.Pairs, func(a, b api.Pair) int { return a.Key - b.Key }) {
			t.Fatalf("P21.5: Blow(%+v): %+v, %v, Final: %v", p, r, err, l)
		}
	}
}
