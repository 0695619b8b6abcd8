package scan_test

import (
	"fmt"
	"runtime"
	"slices"
	"testing"
	"time"

	"skein/api"
	"skein/scan"
)

// totalsOf: of each part how many keys of a plain map are its own, and the sum of their values.
func totalsOf(held map[int]int, parts int) []api.Total {
	list := make([]api.Total, parts)
	for key, value := range held {
		i := partOf(key, parts)
		list[i].Keys++
		list[i].Sum += value
	}
	return list
}

// wantFan asks for a Fan's totals, of each number of workers; nothing changes, once all parts are there.
func (r real) wantFan(t *testing.T, promise string, x api.Snap, want []api.Total) {
	t.Helper()
	for workers := 1; workers <= 8; workers++ {
		was := r.state()
		totals, err := scan.Fan(r.Store, x, workers)
		if err != api.OK || !slices.Equal(totals, want) {
			t.Fatalf("%s: %d workers: %v, %v, want %v", promise, workers, totals, err, want)
		}
		if is := r.state(); !slices.Contains(was.states, 0) && !is.same(was) {
			t.Fatalf("%s: %d workers: %+v, want %+v", promise, workers, is, was)
		}
	}
}

// One part, and as many as can be; more workers than parts, and fewer; parts that are empty, that aren't there yet.
func TestFan(t *testing.T) {
	for _, parts := range []int{1, 2, 3, 7, 8, 9, mostParts} {
		for _, source := range [][]api.Pair{nil, pairs(5, 50), pairs(5, 50, mostKey, -7), sourceAtEdges(parts)} {
			s := api.Setup{Parts: parts, Workers: 1, Slots: 1000, Leases: 2, Source: source}
			for workers := 1; workers <= 8; workers++ {
				r := newReal(t, s)
				x, _ := r.Snap(nil)
				totals, err := scan.Fan(r.Store, x, workers)
				if want := totalsOf(plainly(source), parts); err != api.OK || !slices.Equal(totals, want) {
					t.Fatalf("P19.5: %d parts, %d workers: %v, %v, want %v", parts, workers, totals, err, want)
				}
				if states := r.Load().States(); slices.Min(states) != 2 {
					t.Fatalf("P19.5: %d parts: %v", parts, states)
				}
			}
		}
	}
}

func TestFanRefuses(t *testing.T) {
	r := newReal(t, example).do(t, lease())
	was := r.state()
	for _, workers := range badWorkers {
		for _, x := range append(notSnapshots(exampleX), exampleX) {
			if totals, err := scan.Fan(r.Store, x, workers); err != api.ErrScanRange || len(totals) != 0 {
				t.Errorf("P19.5: %d workers: %v, %v", workers, totals, err)
			}
		}
	}
	if is := r.state(); !is.same(was) {
		t.Errorf("P19.5: %+v, want %+v", is, was)
	}
}

// Sums that go round.
func TestFanGoesRound(t *testing.T) {
	for _, c := range []struct {
		values []int
		sum    int
	}{
		{[]int{highest, 1}, lowest},
		{[]int{highest, highest}, -2},
		{[]int{highest, highest, highest, highest}, -4},
		{[]int{lowest, -1}, highest},
		{[]int{lowest, lowest}, 0},
		{[]int{lowest, highest}, -1},
		{[]int{lowest, lowest, lowest}, lowest},
	} {
		var source []api.Pair
		for i, value := range c.values {
			source = append(source, api.Pair{Key: i, Value: value}, api.Pair{Key: mostKey - i, Value: value})
		}
		r := newReal(t, api.Setup{Parts: 2, Workers: 1, Slots: 60, Leases: 1, Source: source})
		x, _ := r.Snap(nil)
		r.wantFan(t, "P19.5", x, []api.Total{{Keys: len(c.values), Sum: c.sum}, {Keys: len(c.values), Sum: c.sum}})
	}
}

// Each snapshot has its own totals, whatever was written, trimmed and given back since.
func TestFanOfSnapshots(t *testing.T) {
	r := newReal(t, api.Setup{Parts: 3, Workers: 1, Slots: 100, Leases: 4, Source: pairs(1, 10, 1<<31, 20, mostKey, 30)})
	x, _ := r.Snap(nil)
	r.Put(nil, 1, 11)
	r.Put(nil, 2, 5)
	r.Drop(nil, mostKey)
	y, _ := r.Snap(nil)
	r.Many(nil, pairs(1<<31, 1, 1<<31+1, 2, 1<<31+2, 3))
	z, _ := r.Snap(nil)
	r.Drop(nil, 1)
	for range 3 {
		r.wantFan(t, "P19.5: x", x, []api.Total{{Keys: 1, Sum: 10}, {Keys: 1, Sum: 20}, {Keys: 1, Sum: 30}})
		r.wantFan(t, "P19.5: y", y, []api.Total{{Keys: 2, Sum: 16}, {Keys: 1, Sum: 20}, {}})
		r.wantFan(t, "P19.5: z", z, []api.Total{{Keys: 2, Sum: 16}, {Keys: 3, Sum: 6}, {}})
		for part := range 3 {
			r.Trim(nil, part)
		}
		r.Advance(nil)
		r.Advance(nil)
		r.Collect(nil)
		r.Put(nil, 2, r.Epoch().Now())
	}
	r.Free(nil, y)
	if totals, err := scan.Fan(r.Store, y, 2); err != noSnap || len(totals) != 0 {
		t.Errorf("P19.5: %v, %v", totals, err)
	}
}

// Great trees: all keys are told, and each once.
func TestFanOfACrowd(t *testing.T) {
	r, x := crowd(t, 2000)
	r.wantFan(t, "P19.5", x, []api.Total{{Keys: 2000, Sum: -1999 * 2000 / 2}})
}

// Errors: of a View that of the first part that has one, of the trees likewise, whoever is fast; and as many faults each time.
func TestErrorsOfFan(t *testing.T) {
	many := api.Setup{Parts: 8, Workers: 2, Slots: 60, Leases: 2}
	for i := range 8 {
		many.Source = append(many.Source, api.Pair{Key: least(i, 8), Value: i}) // part i has the leaf 2i + 1 and the version 2i + 2
	}
	leaf := func(part int) api.Call { return give(word(2*part+1, 1)) }
	version := func(part int) api.Call { return give(word(2*part+2, 1)) }
	noTree := func(part int) api.Call { return publish(part, 7, 2) }
	for _, c := range []struct {
		name   string
		spoil  []api.Call
		err    api.Errno
		faults int
	}{
		{"a leaf", []api.Call{leaf(3)}, gone, 1},
		{"the first leaf", []api.Call{leaf(0)}, gone, 1},
		{"the last leaf", []api.Call{leaf(7)}, gone, 1},
		{"all leaves", []api.Call{leaf(0), leaf(1), leaf(2), leaf(3), leaf(4), leaf(5), leaf(6), leaf(7)}, gone, 8},
		{"no tree, then leaves", []api.Call{noTree(2), leaf(3), leaf(6)}, noHandle, 2},
		{"a leaf, then no tree", []api.Call{leaf(1), noTree(2), leaf(6)}, gone, 2},
		{"no trees", []api.Call{noTree(7), noTree(0)}, noHandle, 0},
		{"a version", []api.Call{version(4)}, gone, 1},
		{"a version, though trees ahead of it are spoilt, too", []api.Call{noTree(0), leaf(1), version(4), version(5)}, gone, 1},
	} {
		for workers := 1; workers <= 8; workers++ {
			r := newReal(t, many)
			for i := range 8 {
				r.do(t, get(least(i, 8)))
			}
			r.do(t, c.spoil...)
			r.do(t, lease())
			x := at(0, 1)
			for times := 1; times <= 20; times++ {
				totals, err := scan.Fan(r.Store, x, workers)
				if err != c.err || len(totals) != 0 || r.Pool().Faults() != times*c.faults {
					t.Fatalf("P19.5: %s, %d workers: %v, %v, %d faults, want %v", c.name, workers, totals, err, r.Pool().Faults(), c.err)
				}
			}
		}
	}
}

// wantNoMore asks that there are no more goroutines than ahead.
func wantNoMore(t *testing.T, promise string, before int) {
	t.Helper()
	for range 500 {
		if runtime.NumGoroutine() <= before {
			return
		}
		time.Sleep(time.Millisecond)
	}
	t.Errorf("%s: %d goroutines, %d ahead of it", promise, runtime.NumGoroutine(), before)
}

// No goroutine is left behind, also where an error is met.
func TestFanLeavesNothing(t *testing.T) {
	before := runtime.NumGoroutine()
	for _, parts := range []int{1, 2, mostParts} {
		s := api.Setup{Parts: parts, Workers: 1, Slots: 1000, Leases: 1, Source: sourceAtEdges(parts)}
		for workers := range 10 {
			r := newReal(t, s)
			r.Get(nil, 0)
			x, _ := r.Snap(nil)
			scan.Fan(r.Store, x, workers)
			scan.Fan(r.Store, at(0, 9), workers)
			root, _, _ := r.View(nil, x, parts-1)
			r.Pool().Give(nil, root)
			for range 20 {
				scan.Fan(r.Store, x, workers)
			}
			r.Pool().Give(nil, r.Chain(0).Versions()[0])
			scan.Fan(r.Store, x, workers)
		}
		s.Fails = 1
		r := newReal(t, s)
		x, _ := r.Snap(nil)
		for range parts {
			scan.Fan(r.Store, x, 8)
		}
	}
	wantNoMore(t, "P19.5", before)
}

// The same each time, whoever is fast; each answer is new memory.
func TestFanIsTheSameEachTime(t *testing.T) {
	r := newReal(t, api.Setup{Parts: mostParts, Workers: 1, Slots: 1000, Leases: 1, Source: sourceAtEdges(mostParts)})
	x, _ := r.Snap(nil)
	want := totalsOf(plainly(sourceAtEdges(mostParts)), mostParts)
	kept, _ := scan.Fan(r.Store, x, 3)
	for i := range 300 {
		totals, err := scan.Fan(r.Store, x, 1+i%8)
		if err != api.OK || !slices.Equal(totals, want) {
			t.Fatalf("P19.5: time %d: %v, %v", i, totals, err)
		}
		writeOver(totals, api.Total{Keys: spoilt, Sum: spoilt})
		if !slices.Equal(kept, want) {
			t.Fatalf("rule 3: two answers share memory: %v", kept)
		}
	}
	if got := fmt.Sprint(kept[0]); got != "{4 1101}" {
		t.Errorf("P19.5: %s", got)
	}
}
