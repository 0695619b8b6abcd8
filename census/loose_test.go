package census_test

import (
	"runtime"
	"slices"
	"sync/atomic"
	"testing"

	"skein/api"
	"skein/census"
	"skein/crew"
)

// loose does f by so many workers, without turns; all have come when they begin.
func loose(t *testing.T, promise string, workers int, f func(w *crew.Worker) []int) {
	t.Helper()
	var come atomic.Int64
	c := api.Case{Work: slices.Repeat([][]api.Call{{{}}}, workers)}
	answers, err := crew.Loose(c, does(func(w *crew.Worker, _ api.Call) api.Answer {
		come.Add(1)
		for come.Load() < int64(workers) {
			runtime.Gosched()
		}
		return api.Answer{Ints: f(w)}
	}))
	if err != api.OK || len(answers) != workers {
		t.Fatalf("Loose: %v, %v", answers, err)
	}
	for k, list := range answers {
		if len(list) != 1 || list[0].Err != api.OK || len(list[0].Ints) > 0 {
			t.Fatalf("%s: worker %d finds %+v", promise, k, list)
		}
	}
}

// laid: what worker k stores by its Update of this number; 0: what stands there at first.
func laid(k, number int) int { return 1000*k + 7*number }

// crowd: workers that use one census without turns, and what they saw.
type crowd struct {
	census       *census.Census
	words        int
	begun, ended [8]atomic.Int64 // of each worker, how many Updates: noted ahead of each, and behind it
	seen         [8][]api.Seen
}

func newCrowd(t *testing.T, n int) *crowd {
	t.Helper()
	var first []int
	for k := range n {
		first = append(first, laid(k, 0))
	}
	return &crowd{census: newReal(t, first)[0], words: n}
}

// update does a worker's next Update; false: it went wrong.
func (c *crowd) update(w *crew.Worker) bool {
	k := w.Number()
	number := int(c.begun[k].Add(1))
	n, err := c.census.Update(w, laid(k, number))
	c.ended[k].Add(1)
	return n == number && err == api.OK
}

// between tells whether numbers are of a moment that is no earlier than what had ended ahead, and no later than what had begun behind.
func (c *crowd) between(numbers []int, ended, begun [8]int) bool {
	for k, n := range numbers {
		if n < ended[k] || n > begun[k] {
			return false
		}
	}
	return true
}

func noted(list *[8]atomic.Int64) [8]int {
	var now [8]int
	for k := range list {
		now[k] = int(list[k].Load())
	}
	return now
}

// scan does a Scan; false: it went wrong.
func (c *crowd) scan(w *crew.Worker) bool {
	ended := noted(&c.ended)
	s := c.census.Scan(w)
	if len(s.Values) != c.words || len(s.Numbers) != c.words || !c.between(s.Numbers, ended, noted(&c.begun)) {
		return false
	}
	for k, number := range s.Numbers {
		if s.Values[k] != laid(k, number) {
			return false
		}
	}
	c.seen[w.Number()] = append(c.seen[w.Number()], s)
	return true
}

// read reads a word; false: it went wrong.
func (c *crowd) read(w *crew.Worker, k int) bool {
	ended := c.ended[k].Load()
	value, number, err := c.census.Read(w, k)
	return err == api.OK && value == laid(k, number) && number >= int(ended) && number <= int(c.begun[k].Load())
}

// total sums up; false: it went wrong. Of what moments it may be is told by numbers, by which values rise.
func (c *crowd) total(w *crew.Worker) bool {
	sum := func(numbers [8]int) int {
		all := 0
		for k := range c.words {
			all += laid(k, numbers[k])
		}
		return all
	}
	ended := noted(&c.ended)
	all := c.census.Total(w)
	return all >= sum(ended) && all <= sum(noted(&c.begun))
}

// wantOneOrder: all Scans stand in one order, each worker's as they came, and no Update was lost.
func (c *crowd) wantOneOrder(t *testing.T) {
	t.Helper()
	for k, mine := range c.seen {
		for i := range mine {
			if i > 0 && !notAbove(mine[i-1].Numbers, mine[i].Numbers) {
				t.Fatalf("P25.7: worker %d sees %v, and then %v", k, mine[i-1], mine[i])
			}
		}
	}
	all := slices.Concat(c.seen[:]...)
	height := func(s api.Seen) int {
		sum := 0
		for _, n := range s.Numbers {
			sum += n
		}
		return sum
	}
	slices.SortFunc(all, func(a, b api.Seen) int { return height(a) - height(b) })
	for i := range all {
		if i > 0 && !notAbove(all[i-1].Numbers, all[i].Numbers) {
			t.Fatalf("P25.7: of two Scans none is the other one's past: %v, %v", all[i-1], all[i])
		}
	}
	want := api.Seen{}
	for k := range c.words {
		n := int(c.ended[k].Load())
		want.Values, want.Numbers = append(want.Values, laid(k, n)), append(want.Numbers, n)
	}
	if got := c.census.Words(); !sameSeen(got, want) {
		t.Fatalf("P25.9: at the end %v, want %v", got, want)
	}
	if got := c.census.Scan(nil); !sameSeen(got, want) {
		t.Fatalf("P25.9: a Scan at the end %v, want %v", got, want)
	}
}

// Without turns all calls go beside one another: all Scans are in one order, and each shows what had ended ahead of it.
func TestLoose(t *testing.T) {
	const rounds = 800
	for _, x := range []struct{ words, workers int }{{1, 2}, {1, 8}, {2, 3}, {3, 8}, {7, 8}, {8, 8}} {
		c := newCrowd(t, x.words)
		loose(t, "P25.9", x.workers, func(w *crew.Worker) []int {
			k := w.Number()
			m := mixer(k)
			for n := range rounds {
				well := true
				switch m.below(5) {
				case 0, 1:
					if k >= x.words {
						number, err := c.census.Update(w, 1)
						well = number == 0 && err == api.ErrCensusWorker
						break
					}
					well = c.update(w)
				case 2:
					well = c.read(w, m.below(x.words))
				case 3:
					well = c.total(w)
				default:
					well = c.scan(w)
				}
				if !well {
					return []int{n}
				}
			}
			return nil
		})
		c.wantOneOrder(t)
	}
}

// One scans as often as it can while all others Update as often as they can.
func TestLooseScanner(t *testing.T) {
	for words := 1; words <= 7; words++ {
		c := newCrowd(t, words)
		loose(t, "P25.9", words+1, func(w *crew.Worker) []int {
			for n := range 1000 {
				well := true
				if w.Number() == words {
					well = c.scan(w)
				} else {
					well = c.update(w)
				}
				if !well {
					return []int{n}
				}
			}
			return nil
		})
		c.wantOneOrder(t)
	}
}

// Each worker of eight Updates and scans by turns: each Scan of its shows its own Updates.
func TestLooseOwn(t *testing.T) {
	c := newCrowd(t, 8)
	loose(t, "P25.7", 8, func(w *crew.Worker) []int {
		for n := 1; n <= 600; n++ {
			if !c.update(w) || !c.scan(w) {
				return []int{n}
			}
			if got := c.seen[w.Number()][n-1].Numbers[w.Number()]; got != n {
				return []int{n, got}
			}
		}
		return nil
	})
	c.wantOneOrder(t)
}

// Two censuses that the same workers use: neither knows of the other one.
func TestLooseTwo(t *testing.T) {
	a, z := newCrowd(t, 4), newCrowd(t, 3)
	loose(t, "P25.9", 4, func(w *crew.Worker) []int {
		for n := range 500 {
			if !a.update(w) || !a.scan(w) || !z.scan(w) || w.Number() < 3 && n%2 == 0 && !z.update(w) {
				return []int{n}
			}
		}
		return nil
	})
	a.wantOneOrder(t)
	z.wantOneOrder(t)
}

// A case's calls in Loose: what is answered by each, and nothing is left behind.
func TestLooseLeavesNothing(t *testing.T) {
	leavesNothing(t, "P25.9", func() {
		b := newReal(t, firsts(8))
		work := make([][]api.Call, 8)
		for k := range work {
			for i := range api.MaxCalls / 2 {
				work[k] = append(work[k], update(i), scan())
			}
		}
		answers, err := crew.Loose(api.Case{Work: work}, b)
		for k, list := range answers {
			for i, a := range list {
				if i%2 == 0 && !sameAnswer(a, number(i/2+1)) || i%2 == 1 && (!a.Ok || a.Ints[k] != i/2 || a.Ints[8+k] != i/2+1) {
					t.Errorf("P25.9: worker %d: %+v", k, a)
				}
			}
		}
		want := api.Seen{Values: slices.Repeat([]int{api.MaxCalls/2 - 1}, 8), Numbers: slices.Repeat([]int{api.MaxCalls / 2}, 8)}
		if got := b.words()[0]; err != api.OK || !sameSeen(got, want) {
			t.Errorf("P25.9: at the end %v, %v", got, err)
		}
	})
}
