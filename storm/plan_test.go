package storm_test

import (
	"testing"

	"skein/api"
	"skein/storm"
)

var (
	edgesOfParts   = []int{lowest, lowest + 1, -64, -1, 0, 1, 2, 63, mostParts, 65, 128, 1 << 32, highest - 1, highest}
	edgesOfWorkers = []int{lowest, lowest + 1, -8, -1, 0, 1, 2, 7, mostWorkers, 9, 16, 1 << 32, highest - 1, highest}
	edgesOfRounds  = []int{lowest, lowest + 1, -20, -1, 0, 1, 2, 19, mostRounds, 21, 40, 1 << 32, highest - 1, highest}
	edgesOfKeys    = []int{lowest, lowest + 1, -16, -3, -2, -1, 0, 1, 2, 15, mostKeys, 17, 32, 1 << 32, highest - 1, highest}
	edgesOfSeed    = []int{lowest, lowest + 1, -1001, -1000, -999, -1, 0, 1, 3, 999, 1000, 1001, 1 << 32, highest - 1, highest}
)

// Every plan of the edges, in every field at once: both calls answer ErrStormPlan just where it can't be. (Of those that can be Final alone is asked here.)
func TestPlansAtTheEdges(t *testing.T) {
	can, cannot := 0, 0
	for _, parts := range edgesOfParts {
		for _, workers := range edgesOfWorkers {
			for _, rounds := range edgesOfRounds {
				for _, keys := range edgesOfKeys {
					p := plan(parts, workers, rounds, keys, 5)
					if !canBe(p) {
						cannot++
						wantRefused(t, p)
						continue
					}
					can++
					if _, err := storm.Final(p); err != api.OK {
						t.Errorf("P21.1: Final(%+v): %v", p, err)
					}
				}
			}
		}
	}
	if can < 100 || cannot < 1000 {
		t.Errorf("%d plans that can be, %d that can't", can, cannot)
	}
}

// Each field by itself one below, at and one above its edges, by numbers written out; both calls.
func TestEdgesOneByOne(t *testing.T) {
	for _, c := range []struct {
		p   api.Storm
		can bool
	}{
		{plan(0, 2, 2, 2, 3), false}, {plan(1, 2, 2, 2, 3), true}, {plan(64, 2, 2, 2, 3), true}, {plan(65, 2, 2, 2, 3), false}, {plan(-1, 2, 2, 2, 3), false},
		{plan(2, 0, 2, 2, 3), false}, {plan(2, 1, 2, 2, 3), true}, {plan(2, 8, 2, 2, 3), true}, {plan(2, 9, 2, 2, 3), false}, {plan(2, -1, 2, 2, 3), false},
		{plan(2, 2, -1, 2, 3), false}, {plan(2, 2, 0, 2, 3), true}, {plan(2, 2, 20, 2, 3), true}, {plan(2, 2, 21, 2, 3), false},
		{plan(2, 2, 2, 0, 3), false}, {plan(2, 2, 2, 1, 3), true}, {plan(2, 2, 2, 16, 3), true}, {plan(2, 2, 2, 17, 3), false}, {plan(2, 2, 2, -1, 3), false},
		// Just at MaxEvents, and above it.
		{plan(2, 8, 8, 14, 3), true}, {plan(2, 8, 8, 15, 3), false}, {plan(2, 8, 9, 14, 3), false},
		{plan(2, 4, 16, 14, 3), true}, {plan(2, 5, 16, 14, 3), false}, {plan(2, 4, 16, 15, 3), false}, {plan(2, 4, 17, 14, 3), false},
		{plan(2, 8, 16, 6, 3), true}, {plan(2, 8, 16, 7, 3), false}, {plan(2, 8, 17, 6, 3), false},
		{plan(2, 7, 9, 14, 3), true},   // 1008
		{plan(2, 5, 12, 15, 3), true},  // 1020
		{plan(2, 5, 12, 16, 3), false}, // 1080
		{plan(2, 3, 19, 16, 3), false}, // 1026
		{plan(2, 3, 20, 15, 3), true},  // 1020
		// Without rounds any number of keys and workers goes.
		{plan(64, 8, 0, 16, 3), true}, {plan(64, 8, 0, 17, 3), false}, {plan(64, 9, 0, 16, 3), false}, {plan(0, 8, 0, 16, 3), false},
		{plan(1, 1, 0, 0, 3), false}, {plan(0, 0, 0, 0, 0), false},
	} {
		if c.can != canBe(c.p) {
			t.Fatalf("P21.1: %+v", c.p)
		}
		if !c.can {
			wantRefused(t, c.p)
			continue
		}
		wantFinal(t, "P21.1", c.p)
		wantBlow(t, "P21.1", 2, c.p)
	}
}

// Every number of workers, rounds and keys from one below the least to one above the greatest.
func TestEveryPlan(t *testing.T) {
	can := 0
	for workers := 0; workers <= mostWorkers+1; workers++ {
		for rounds := -1; rounds <= mostRounds+1; rounds++ {
			for keys := 0; keys <= mostKeys+1; keys++ {
				p := plan(1+(workers+rounds+keys)%mostParts, workers, rounds, keys, workers*rounds-keys)
				if p.Parts < 1 || !canBe(p) {
					wantRefused(t, p)
					continue
				}
				can++
				wantFinal(t, "P21.4", p)
			}
		}
	}
	if can < 1000 {
		t.Errorf("%d plans that can be", can)
	}
}

// Where a product of such numbers goes round it would seem small.
func TestPlansThatGoRound(t *testing.T) {
	for _, n := range []int{1 << 16, 1 << 21, 1 << 31, 1 << 32, 1 << 33, 1 << 60, 1 << 61, 1 << 62, 1<<62 - 1, highest, lowest, -1 << 62, -1 << 32} {
		for _, m := range []int{0, 1, 2, 4, 1 << 16, 1 << 31, 1 << 32, 1 << 61, 1 << 62, 1<<62 - 2, highest, lowest, lowest - -2, -1, -2} {
			for _, p := range []api.Storm{
				plan(1, n, m, 1, 3), plan(1, n, 1, m, 3), plan(1, 1, n, m, 3), plan(1, m, n, 1, 3), plan(1, m, 1, n, 3), plan(1, 1, m, n, 3),
				plan(n, 1, 1, m, 3), plan(m, 1, 1, n, 3), plan(n, n, n, n, n), plan(n, m, n, m, n), plan(1, n, n, n, m), plan(n, 1, m, 1, m),
			} {
				if canBe(p) {
					t.Fatalf("P21.1: %+v", p)
				}
				wantRefused(t, p)
			}
		}
	}
}

// Seed is any number.
func TestEverySeed(t *testing.T) {
	for _, seed := range edgesOfSeed {
		for _, p := range []api.Storm{plan(1, 1, 1, 2, seed), plan(2, 3, 2, 3, seed), plan(3, 8, 3, 2, seed)} {
			wantFinal(t, "P21.2", p)
			wantBlow(t, "P21.2", 2, p)
		}
	}
	for seed := -1100; seed <= 2100; seed++ {
		wantFinal(t, "P21.2", plan(1, 2, 3, 4, seed))
	}
}
