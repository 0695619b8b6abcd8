package storm_test

import (
	"slices"
	"testing"

	"skein/api"
	"skein/storm"
)

// final: what Final tells; it must.
func final(t *testing.T, p api.Storm) []api.Pair {
	t.Helper()
	l, err := storm.Final(p)
	if err != api.OK {
		t.Fatalf("P21.4: Final(%+v): %v", p, err)
	}
	return l
}

// P21.2: of four Seeds one behind the other each key is left out by one, and told by three: so all keys are seen, and v of each, in every round.
func TestKeysAndNumbers(t *testing.T) {
	for workers := 1; workers <= mostWorkers; workers++ {
		for keys := 1; keys <= mostKeys; keys++ {
			for rounds := 1; rounds <= mostRounds && workers*rounds*(keys+2) <= mostEvents; rounds++ {
				seen := map[int]int{}
				for seed := 0; seed < 4; seed++ {
					p := plan(1, workers, rounds, keys, seed+rounds*keys)
					wantFinal(t, "P21.2", p)
					for _, x := range final(t, p) {
						seen[x.Key]++
					}
				}
				if len(seen) != workers*keys {
					t.Fatalf("P21.2: %d workers of %d keys: %d keys", workers, keys, len(seen))
				}
				for key, n := range seen {
					if n != 3 || key < 0 || key >= 1<<32 {
						t.Fatalf("P21.2: %d workers of %d keys: %d is told %d times", workers, keys, key, n)
					}
				}
			}
		}
	}
}

// The formula by numbers worked out by hand: where the keys don't divide 2^32, and where v goes beyond 999.
func TestFinalByHand(t *testing.T) {
	for _, c := range []struct {
		p    api.Storm
		want []api.Pair
	}{
		{plan(1, 1, 1, 2, 3), []api.Pair{{Key: 0, Value: 3}, {Key: 2147483648, Value: 10}}},
		{plan(1, 1, 0, 2, 3), nil},
		{plan(9, 8, 0, 16, 3), nil},
		{plan(1, 1, 1, 1, 4), nil}, // 4: a Drop
		{plan(1, 1, 1, 1, 0), nil}, // 0: a Drop
		{plan(1, 1, 1, 1, -1), []api.Pair{{Key: 0, Value: 999}}},
		{plan(1, 1, 1, 1, -999), []api.Pair{{Key: 0, Value: 1}}},
		{plan(1, 1, 1, 1, -1000), nil},
		{plan(1, 1, 2, 1, 1), nil},                               // 1, then 32: a Drop
		{plan(1, 1, 2, 1, 2), []api.Pair{{Key: 0, Value: 33}}},   // 2, then 33
		{plan(1, 1, 2, 1, 970), []api.Pair{{Key: 0, Value: 1}}},  // 970, then 1001
		{plan(1, 1, 2, 1, 1969), nil},                            // 969, then 1000
		{plan(1, 1, 20, 1, 2), []api.Pair{{Key: 0, Value: 591}}}, // 2 and 31 times 19
		// Three workers with one key each: 2^32 / 3.
		{plan(1, 3, 1, 1, 1), []api.Pair{{Key: 0, Value: 1}, {Key: 1431655765, Value: 2}, {Key: 2863311530, Value: 3}}},
		// Two workers with three keys each: sixths; worker 0 has the first, third and fifth; v is 1, 8, 15 and 2, 9, 16.
		{plan(1, 2, 1, 3, 1), []api.Pair{{Key: 0, Value: 1}, {Key: 715827882, Value: 2}, {Key: 2147483648, Value: 9}, {Key: 2863311530, Value: 15}}},
		// Seven workers with one key each; of the fourth one v is 4.
		{plan(1, 7, 1, 1, 1), []api.Pair{{Key: 0, Value: 1}, {Key: 613566756, Value: 2}, {Key: 1227133513, Value: 3}, {Key: 2454267026, Value: 5}, {Key: 3067833782, Value: 6}, {Key: 3681400539, Value: 7}}},
		// The greatest and the least int end with 807 and 808, below 0: 192.
		{plan(1, 1, 1, 1, highest), []api.Pair{{Key: 0, Value: 807}}},
		{plan(1, 1, 1, 1, lowest), nil},
		{plan(1, 1, 1, 1, lowest+1), []api.Pair{{Key: 0, Value: 193}}},
	} {
		if l := final(t, c.p); !slices.Equal(l, c.want) {
			t.Errorf("P21.2, P21.4: Final(%+v): %v, want %v", c.p, l, c.want)
		}
		if r, err := storm.Blow(c.p); err != api.OK || !slices.Equal(r.Pairs, c.want) {
			t.Errorf("P21.2, P21.4: Blow(%+v): %+v, %v, want %v", c.p, r, err, c.want)
		}
	}
}

// P21.4: parts change nothing of what Final tells; the pairs rise.
func TestFinalHangsNotOnParts(t *testing.T) {
	var m mixer = 5
	for range 500 {
		p := m.plan()
		l := final(t, p)
		if !slices.IsSortedFunc(l, func(a, b api.Pair) int { return a.Key - b.Key }) {
			t.Fatalf("P21.4: Final(%+v): %v", p, l)
		}
		for _, parts := range []int{1, 2, 63, mostParts} {
			p.Parts = parts
			if other := final(t, p); !slices.Equal(other, l) {
				t.Fatalf("P21.4: Final(%+v): %v, want %v", p, other, l)
			}
		}
		wantFinal(t, "P21.4", p)
	}
}

// Seeds that are the same modulo 1000 tell the same.
func TestSeedsGoRound(t *testing.T) {
	for seed := range 1000 {
		l := final(t, plan(1, 3, 2, 3, seed))
		for _, other := range []int{seed - 1000, seed + 1000, seed - 5000, seed + 1000*(1<<40), seed - 1000*(1<<40)} {
			if o := final(t, plan(1, 3, 2, 3, other)); !slices.Equal(o, l) {
				t.Fatalf("P21.2: Seed %d: %v, Seed %d: %v", seed, l, other, o)
			}
		}
	}
}
