package storm_test

import (
	"runtime"
	"slices"
	"sync"
	"testing"
	"time"

	"skein/api"
	"skein/storm"
)

// writeOver writes into a list and all the spare room behind it.
func writeOver(list []api.Pair) {
	list = list[:cap(list)]
	for i := range list {
		list[i] = api.Pair{Key: -99, Value: -99}
	}
}

// Rule 3: what is answered is new memory; rule 6: two Blows one behind the other don't meet.
func TestMemory(t *testing.T) {
	for _, p := range []api.Storm{plan(1, 1, 1, 2, 3), plan(2, 3, 2, 5, 1), plan(mostParts, 8, 3, 6, 2)} {
		want := reportOf(p)
		first, _ := storm.Blow(p)
		second, _ := storm.Blow(p)
		one, _ := storm.Final(p)
		other, _ := storm.Final(p)
		writeOver(first.Pairs)
		writeOver(one)
		if !same(second, want) || !slices.Equal(other, want.Pairs) {
			t.Fatalf("rule 3: %+v: an answer was changed by what was done with another one: %+v, %v", p, second, other)
		}
		wantFinal(t, "rule 6", p)
		wantBlow(t, "rule 6", 1, p)
	}
}

// Plans that are refused between others change nothing of them.
func TestRefusedBetween(t *testing.T) {
	p, bad := plan(2, 3, 2, 5, 1), plan(2, 3, 2, 17, 1)
	for range 5 {
		wantBlow(t, "rule 6", 1, p)
		wantRefused(t, bad)
		wantFinal(t, "rule 6", p)
	}
}

// Rule 6: Blows at one time, of one plan and of several, don't meet.
func TestAtOneTime(t *testing.T) {
	plans := []api.Storm{plan(1, 8, 7, 16, 3), plan(mostParts, 8, 8, 14, 1), plan(2, 2, 2, 2, 2), plan(1, 1, 20, 16, 5), plan(3, 8, 20, 4, -7), plan(1, 8, 0, 1, 0), plan(2, 3, 4, 17, 0)}
	often := 6
	if testing.Short() {
		often = 1
	}
	var all sync.WaitGroup
	for i := range 2 * len(plans) {
		all.Add(1)
		go func() {
			defer all.Done()
			p := plans[i%len(plans)]
			for range often {
				r, err := storm.Blow(p)
				l, errFinal := storm.Final(p)
				if !canBe(p) {
					if err != noPlan || errFinal != noPlan || len(l) != 0 || !same(r, api.Report{}) {
						t.Errorf("P21.1: %+v: %+v, %v, %v, %v", p, r, err, l, errFinal)
					}
					continue
				}
				if want := reportOf(p); err != api.OK || errFinal != api.OK || !same(r, want) || !slices.Equal(l, want.Pairs) {
					t.Errorf("P21.5, P32.9: Blow(%+v) beside others: %+v, %v, %v, want %+v", p, r, err, l, want)
				}
			}
		}()
	}
	all.Wait()
}

// wantNoMore asks that there are no more goroutines than ahead.
func wantNoMore(t *testing.T, before int) {
	t.Helper()
	for range 500 {
		if runtime.NumGoroutine() <= before {
			return
		}
		time.Sleep(time.Millisecond)
	}
	t.Errorf("P21.3: %d goroutines, %d ahead of it", runtime.NumGoroutine(), before)
}

// settled: how many goroutines there are when those of others have gone.
func settled() int {
	least := runtime.NumGoroutine()
	for range 50 {
		time.Sleep(time.Millisecond)
		least = min(least, runtime.NumGoroutine())
	}
	return least
}

// No goroutine is left behind.
func TestLeavesNothing(t *testing.T) {
	before := settled()
	for _, p := range []api.Storm{plan(1, 1, 1, 2, 3), plan(mostParts, 8, 3, 6, 2), plan(1, 8, 0, 1, 0), plan(1, 8, 7, 16, 0), plan(2, 3, 4, 17, 0)} {
		for range 3 {
			storm.Blow(p)
			storm.Final(p)
		}
	}
	wantNoMore(t, before)
}

// Each worker is in a goroutine of its own: there are so many more while a plan is blown.
func TestGoroutines(t *testing.T) {
	before := settled()
	for _, workers := range []int{1, 2, mostWorkers} {
		p := plan(1, workers, 7, mostKeys, 3)
		most := 0
		for round := 0; round < 200 && most < before+1+workers; round++ {
			done := make(chan api.Errno)
			go func() {
				_, err := storm.Blow(p)
				done <- err
			}()
			for blowing := true; blowing; {
				select {
				case err := <-done:
					blowing = false
					if err != api.OK {
						t.Fatalf("P21.3: Blow(%+v): %v", p, err)
					}
				default:
					most = max(most, runtime.NumGoroutine())
					runtime.Gosched()
				}
			}
		}
		if most < before+1+workers { // the one that blows, and its workers
			t.Errorf("P21.3: %d workers: %d goroutines at most, %d ahead", workers, most, before)
		}
	}
}
