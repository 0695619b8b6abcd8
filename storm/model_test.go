package storm_test

import (
	"maps"
	"math"
	"math/big"
	"reflect"
	"slices"
	"testing"

	"skein/api"
	"skein/storm"
)

// What the chapter and the document say in numbers.
const (
	noPlan      api.Errno = 210
	mostParts             = 64
	mostWorkers           = 8
	mostRounds            = 20
	mostKeys              = 16
	mostEvents            = 1024
	highest               = math.MaxInt
	lowest                = math.MinInt
)

func plan(parts, workers, rounds, keys, seed int) api.Storm {
	return api.Storm{Parts: parts, Workers: workers, Rounds: rounds, Keys: keys, Seed: seed}
}

func number(n int) *big.Int { return big.NewInt(int64(n)) }

func times(a, b *big.Int) *big.Int { return new(big.Int).Mul(a, b) }

// eventsOf: Workers times Rounds times (Keys and 2), however great they are.
func eventsOf(p api.Storm) *big.Int {
	each := new(big.Int).Add(number(p.Keys), number(2))
	return times(times(number(p.Workers), number(p.Rounds)), each)
}

// canBe: P21.1, by numbers that don't go round.
func canBe(p api.Storm) bool {
	return p.Parts >= 1 && p.Parts <= mostParts && p.Workers >= 1 && p.Workers <= mostWorkers &&
		p.Rounds >= 0 && p.Rounds <= mostRounds && p.Keys >= 1 && p.Keys <= mostKeys &&
		eventsOf(p).Cmp(number(mostEvents)) <= 0
}

// keyOf: P21.2: 2^32 times (i times Workers, and k), divided by (Keys times Workers), rounded down.
func keyOf(p api.Storm, k, i int) int {
	at := number(i*p.Workers + k)
	return int(new(big.Int).Div(times(number(1<<32), at), number(p.Keys*p.Workers)).Int64())
}

// valueOf: P21.2: v.
func valueOf(p api.Storm, j, k, i int) int {
	seed := new(big.Int).Mod(number(p.Seed), number(1000))
	return (int(seed.Int64()) + 31*j + 7*i + k) % 1000
}

// partOf: the key times the parts, divided by 2^32, rounded down.
func partOf(key, parts int) int {
	return int(new(big.Int).Div(times(number(key), number(parts)), number(1<<32)).Int64())
}

// heldBy: a plain map behind all rounds.
func heldBy(p api.Storm) map[int]int {
	held := map[int]int{}
	for j := range p.Rounds {
		for k := range p.Workers {
			for i := range p.Keys {
				if v := valueOf(p, j, k, i); v%4 == 0 {
					delete(held, keyOf(p, k, i))
				} else {
					held[keyOf(p, k, i)] = v
				}
			}
		}
	}
	return held
}

// reckoned: the pairs that a plan comes to, rising.
func reckoned(p api.Storm) []api.Pair {
	held := heldBy(p)
	var list []api.Pair
	for _, key := range slices.Sorted(maps.Keys(held)) {
		list = append(list, api.Pair{Key: key, Value: held[key]})
	}
	return list
}

// usedBy: how many slots are in use at the end: of each part that some call came to 1, and 2n - 1 more, if n of the pairs are its. (Each round comes to all parts.)
func usedBy(p api.Storm) int {
	if p.Rounds == 0 {
		return 0
	}
	many := make([]int, p.Parts)
	for key := range heldBy(p) {
		many[partOf(key, p.Parts)]++
	}
	used := p.Parts
	for _, n := range many {
		if n > 0 {
			used += 2*n - 1
		}
	}
	return used
}

// reportOf: P21.5: what a plan tells.
func reportOf(p api.Storm) api.Report {
	return api.Report{Pairs: reckoned(p), Events: int(eventsOf(p).Int64()), Used: usedBy(p)}
}

// same holds two reports against each other; a nil list and an empty one are one.
func same(a, b api.Report) bool {
	pairs := slices.Equal(a.Pairs, b.Pairs)
	a.Pairs, b.Pairs = nil, nil
	return pairs && reflect.DeepEqual(a, b)
}

// wantBlow blows a plan so often, and asks for its report each time.
func wantBlow(t *testing.T, promise string, often int, p api.Storm) {
	t.Helper()
	want := reportOf(p)
	for n := range often {
		if r, err := storm.Blow(p); err != api.OK || !same(r, want) {
			t.Fatalf("%s: Blow(%+v), time %d: %+v, %v, want %+v", promise, p, n, r, err, want)
		}
	}
}

func wantFinal(t *testing.T, promise string, p api.Storm) {
	t.Helper()
	if l, err := storm.Final(p); err != api.OK || !slices.Equal(l, reckoned(p)) {
		t.Fatalf("%s: Final(%+v): %v, %v, want %v", promise, p, l, err, reckoned(p))
	}
}

// wantRefused asks for ErrStormPlan, and nothing with it.
func wantRefused(t *testing.T, p api.Storm) {
	t.Helper()
	if r, err := storm.Blow(p); err != noPlan || !same(r, api.Report{}) {
		t.Errorf("P21.1: Blow(%+v): %+v, %v", p, r, err)
	}
	if l, err := storm.Final(p); err != noPlan || len(l) != 0 {
		t.Errorf("P21.1: Final(%+v): %v, %v", p, l, err)
	}
}

// takesLong leaves a test out where tests are to be short.
func takesLong(t *testing.T) {
	t.Helper()
	if testing.Short() {
		t.Skip("it takes long")
	}
}

// mixer: numbers that look mixed, the same each time.
type mixer uint64

func (m *mixer) below(n int) int {
	*m = *m*6364136223846793005 + 1442695040888963407
	return int(uint64(*m)>>33) % n
}

// plan: one that can be.
func (m *mixer) plan() api.Storm {
	for {
		p := plan(1+m.below(mostParts), 1+m.below(mostWorkers), m.below(mostRounds+1), 1+m.below(mostKeys), m.below(4000)-2000)
		if m.below(2) == 0 {
			p.Parts = 1 + m.below(4)
		}
		if canBe(p) {
			return p
		}
	}
}
