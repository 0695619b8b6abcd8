package post_test

import (
	"runtime"
	"slices"
	"sync"
	"sync/atomic"
	"testing"

	"skein/api"
	"skein/post"
)

var anyRoom = []int{1, 2, 3, 7, 63, 64}

// wantSide holds Gather and Merge of lists against what they must be, by each of some rooms.
func wantSide(t *testing.T, lists [][]int) {
	t.Helper()
	gathered := slices.Concat(lists...)
	merged := slices.Sorted(slices.Values(gathered))
	for _, room := range anyRoom {
		if l, err := post.Gather(lists, room); err != api.OK || !slices.Equal(l, gathered) {
			t.Fatalf("P6.3: Gather of %d lists, room %d: %v, %v, want %v", len(lists), room, l, err, gathered)
		}
		if l, err := post.Merge(lists, room); err != api.OK || !slices.Equal(l, merged) {
			t.Fatalf("P6.3: Merge of %d lists, room %d: %v, %v, want %v", len(lists), room, l, err, merged)
		}
	}
}

func TestExamplesOfLists(t *testing.T) {
	lists := [][]int{{3, 1}, nil, {2}}
	if l, err := post.Gather(lists, 1); err != api.OK || !slices.Equal(l, []int{3, 1, 2}) {
		t.Errorf("P6.3: the chapter's example 2: Gather: %v, %v", l, err)
	}
	if l, err := post.Merge(lists, 1); err != api.OK || !slices.Equal(l, []int{1, 2, 3}) {
		t.Errorf("P6.3: the chapter's example 2: Merge: %v, %v", l, err)
	}
}

func TestListsOfFewNumbers(t *testing.T) {
	for _, lists := range [][][]int{
		nil, {}, {nil}, {{}}, {nil, {}, nil}, make([][]int, 500),
		{{0}}, {{-1}}, {{lowest}}, {{highest, lowest}}, {{lowest}, {highest}, {lowest}}, {{0, 0}, {0}, {0, 0, 0}},
		{nil, {1}, nil, nil, {0}, nil}, {{1, 2, 3}}, {{3, 2, 1}}, {{3}, {2}, {1}}, {{1}, {2}, {3}},
		{{highest, -1, 0, 1, lowest}, {lowest + 1, highest - 1}}, {{5, 5, 1}, {5, 1, 1}, {5}},
	} {
		wantSide(t, lists)
	}
}

func rising(from, n int) []int {
	list := make([]int, n)
	for i := range list {
		list[i] = from + i
	}
	return list
}

// More numbers than room, in one list, in many, and in the first or in the last one alone.
func TestListsOfManyNumbers(t *testing.T) {
	fallen := rising(0, 5000)
	slices.Reverse(fallen)
	wantSide(t, [][]int{rising(0, 64)})
	wantSide(t, [][]int{rising(0, 65), rising(0, 66)})
	wantSide(t, [][]int{fallen})
	wantSide(t, [][]int{fallen, {7}, nil, {-7}})
	wantSide(t, [][]int{{7}, nil, {-7}, fallen})
	wantSide(t, [][]int{fallen, fallen, rising(-3000, 3001), make([]int, 4000)})
	var many [][]int
	for i := range 300 {
		many = append(many, rising(1000-i*i%700, i%130))
	}
	wantSide(t, many)
}

// There may be more lists than goroutines could be had for them at one time.
func TestManyLists(t *testing.T) {
	var lists [][]int
	for i := range 30000 {
		lists = append(lists, rising(-i, i%4))
	}
	gathered := slices.Concat(lists...)
	for _, room := range []int{1, 64} {
		if l, err := post.Gather(lists, room); err != api.OK || !slices.Equal(l, gathered) {
			t.Errorf("P6.3: Gather of many lists, room %d: %d numbers, %v", room, len(l), err)
		}
	}
	slices.Sort(gathered)
	if l, err := post.Merge(lists, 5); err != api.OK || !slices.Equal(l, gathered) {
		t.Errorf("P6.3: Merge of many lists: %d numbers, %v", len(l), err)
	}
}

func mixedLists(m *mixer) [][]int {
	var lists [][]int
	for range m.below(12) {
		var list []int
		for range m.below(4) * m.below(40) {
			n := m.below(20)
			if m.below(30) == 0 {
				n = m.one(farNumbers)
			}
			list = append(list, n)
		}
		lists = append(lists, list)
	}
	return lists
}

func TestMixedLists(t *testing.T) {
	m := mixer(11)
	for range 400 {
		wantSide(t, mixedLists(&m))
	}
}

func TestListsWithoutRoom(t *testing.T) {
	for _, room := range noRooms {
		for _, lists := range [][][]int{nil, {}, {nil}, {{3, 1}, {2}}, {rising(0, 100)}} {
			if l, err := post.Gather(lists, room); len(l) > 0 || err != api.ErrPostRoom {
				t.Errorf("P6.3: Gather(%v, %d): %v, %v", lists, room, l, err)
			}
			if l, err := post.Merge(lists, room); len(l) > 0 || err != api.ErrPostRoom {
				t.Errorf("P6.3: Merge(%v, %d): %v, %v", lists, room, l, err)
			}
		}
	}
}

// Gather of rising lists, none of which has a number below one ahead of it, is Merge of them; what is merged stays so.
func TestGatherIsMerge(t *testing.T) {
	m := mixer(5)
	for range 300 {
		var lists [][]int
		n := -50
		for range m.below(10) {
			var list []int
			for range m.below(30) {
				n += m.below(3)
				list = append(list, n)
			}
			lists = append(lists, list)
		}
		room := 1 + m.below(64)
		gathered, e := post.Gather(lists, room)
		merged, err := post.Merge(lists, room)
		if e != api.OK || err != api.OK || !slices.Equal(gathered, merged) {
			t.Fatalf("P6.8: %v: Gather %v, Merge %v", lists, gathered, merged)
		}
	}
	for range 300 {
		lists, room := mixedLists(&m), 1+m.below(64)
		once, _ := post.Merge(lists, room)
		twice, err := post.Merge([][]int{once}, room)
		if err != api.OK || !slices.Equal(once, twice) || !slices.IsSorted(once) {
			t.Fatalf("P6.8: Merge of %v is %v, once more %v", lists, once, twice)
		}
	}
}

func TestListsKeepToTheirMemory(t *testing.T) {
	m := mixer(9)
	for range 200 {
		was := mixedLists(&m)
		for _, call := range []func([][]int, int) ([]int, api.Errno){post.Gather, post.Merge} {
			var lists [][]int
			for _, list := range was {
				lists = append(lists, roomy(list))
			}
			once, _ := call(lists, 4)
			for i := range lists {
				if !untouched(lists[i], was[i]) {
					t.Fatalf("P6.3: a list was changed: %v, it was %v", lists[i], was[i])
				}
			}
			kept := slices.Clone(once)
			again, _ := call(lists, 4)
			for i := range lists {
				writeOver(lists[i])
				lists[i] = nil
			}
			if !slices.Equal(once, kept) || !slices.Equal(again, kept) {
				t.Fatalf("P6.3: an answer hangs on the lists: %v, want %v", once, kept)
			}
			writeOver(once)
			if !slices.Equal(again, kept) {
				t.Fatalf("P6.3: an answer hangs on another one: %v, want %v", again, kept)
			}
		}
	}
	// One list alone is copied too.
	list := []int{1, 2, 3}
	gathered, _ := post.Gather([][]int{list}, 8)
	merged, _ := post.Merge([][]int{list}, 8)
	gathered[0], merged[1] = 8, 9
	if !slices.Equal(list, []int{1, 2, 3}) {
		t.Errorf("P6.3: a list was changed through an answer: %v", list)
	}
}

func TestListsLeaveNothing(t *testing.T) {
	m := mixer(2)
	leavesNothing(t, "P6.3", func() {
		for range 200 {
			lists := mixedLists(&m)
			post.Gather(lists, 1)
			post.Merge(lists, 3)
			post.Gather(lists, 0)
			post.Merge(lists, 65)
		}
	})
}

// calls: how often f was called of each number, and how many calls were under way at one moment.
type calls struct {
	often       []atomic.Int64
	under, most atomic.Int64
}

func (c *calls) begin(i int) {
	c.often[i].Add(1)
	n := c.under.Add(1)
	for {
		was := c.most.Load()
		if n <= was || c.most.CompareAndSwap(was, n) {
			return
		}
	}
}

func (c *calls) end() { c.under.Add(-1) }

// wantEach does Each with a call that does wait besides, and holds it against what it must be.
func wantEach(t *testing.T, n, side int, wait func(i int)) {
	t.Helper()
	c := calls{often: make([]atomic.Int64, max(n, 0))}
	l, err := post.Each(n, side, func(i int) int {
		c.begin(i)
		defer c.end()
		wait(i)
		return i*i - 7
	})
	if err != api.OK || len(l) != max(n, 0) {
		t.Fatalf("P6.4: Each(%d, %d): %d answers, %v", n, side, len(l), err)
	}
	for i := range l {
		if l[i] != i*i-7 || c.often[i].Load() != 1 {
			t.Fatalf("P6.4: Each(%d, %d): of %d: %d, called %d times", n, side, i, l[i], c.often[i].Load())
		}
	}
	if most := c.most.Load(); most > int64(side) || c.under.Load() != 0 {
		t.Fatalf("P6.4: Each(%d, %d): %d calls under way at one moment, %d behind it", n, side, most, c.under.Load())
	}
}

var anyCount = []int{lowest, -64, -1, 0, 1, 2, 3, 6, 7, 8, 62, 63, 64, 65, 128, 129, 1000}

func TestEach(t *testing.T) {
	for _, side := range anyRoom {
		for _, n := range anyCount {
			wantEach(t, n, side, func(int) {})
			wantEach(t, n, side, func(i int) {
				for range i % 5 {
					runtime.Gosched()
				}
			})
		}
	}
	wantEach(t, 100000, 64, func(int) {})
	wantEach(t, 50000, 1, func(int) {})
}

// Answers of all kinds of numbers stand at their calls' places.
func TestEachAnswers(t *testing.T) {
	for _, side := range anyRoom {
		l, err := post.Each(len(farNumbers), side, func(i int) int { return farNumbers[i] })
		if err != api.OK || !slices.Equal(l, farNumbers) {
			t.Errorf("P6.4: Each by %d: %v, %v", side, l, err)
		}
	}
}

func TestEachOfNone(t *testing.T) {
	for _, n := range []int{lowest, -1 << 32, -1, 0} {
		for _, side := range anyRoom {
			if l, err := post.Each(n, side, nil); len(l) > 0 || err != api.OK {
				t.Errorf("P6.4: Each(%d, %d): %v, %v", n, side, l, err)
			}
		}
	}
}

func TestEachWithoutRoom(t *testing.T) {
	for _, side := range noRooms {
		for _, n := range anyCount {
			var called atomic.Int64
			l, err := post.Each(n, side, func(int) int { return int(called.Add(1)) })
			if len(l) > 0 || err != api.ErrPostRoom || called.Load() > 0 {
				t.Errorf("P6.4: Each(%d, %d): %v, %v, called %d times", n, side, l, err, called.Load())
			}
		}
	}
}

func TestExampleOfEach(t *testing.T) {
	var both sync.WaitGroup
	both.Add(2)
	wantEach(t, 4, 2, func(i int) {
		if i < 2 {
			both.Done()
			both.Wait()
		}
	})
}

// All calls, side by side as they are begun, wait for one another; a rest that is fewer doesn't.
func TestEachWaitForOneAnother(t *testing.T) {
	for _, side := range anyRoom {
		for _, n := range []int{side, side + 1, 2 * side, 3*side - 1, 10 * side} {
			groups := make([]sync.WaitGroup, n/side+1)
			for g := range groups {
				groups[g].Add(side)
			}
			var begun atomic.Int64
			wantEach(t, n, side, func(int) {
				g := (int(begun.Add(1)) - 1) / side
				if g < n/side {
					groups[g].Done()
					groups[g].Wait()
				}
			})
		}
	}
}

// While some calls wait till all others have ended, the others are done by whoever has none under way.
func TestEachGoesOnBesideACallThatWaits(t *testing.T) {
	for _, side := range []int{2, 3, 64} {
		for _, n := range []int{side, side + 1, 10 * side} {
			for _, waits := range []func(i int) bool{
				func(i int) bool { return i < side-1 },
				func(i int) bool { return i >= n-side+1 },
				func(i int) bool { return i%(n/(side-1)) == 0 && i/(n/(side-1)) < side-1 },
			} {
				var others sync.WaitGroup
				for i := range n {
					if !waits(i) {
						others.Add(1)
					}
				}
				wantEach(t, n, side, func(i int) {
					if waits(i) {
						others.Wait()
						return
					}
					others.Done()
				})
			}
		}
	}
}

// Calls may do Each themselves.
func TestEachWithinEach(t *testing.T) {
	l, err := post.Each(20, 3, func(i int) int {
		sum := 0
		inner, _ := post.Each(i, 2, func(j int) int { return j + 1 })
		for _, n := range inner {
			sum += n
		}
		return sum
	})
	for i, n := range l {
		if n != i*(i+1)/2 {
			t.Errorf("P6.4: Each within Each: of %d: %d", i, n)
		}
	}
	if err != api.OK || len(l) != 20 {
		t.Errorf("P6.4: Each within Each: %v, %v", l, err)
	}
}

func TestEachKeepsToItsMemory(t *testing.T) {
	f := func(i int) int { return i }
	once, _ := post.Each(10, 3, f)
	again, _ := post.Each(10, 3, f)
	writeOver(once)
	if !slices.Equal(again, rising(0, 10)) {
		t.Errorf("P6.4: an answer hangs on another one: %v", again)
	}
}

func TestEachLeavesNothing(t *testing.T) {
	leavesNothing(t, "P6.4", func() {
		for _, side := range append(anyRoom, noRooms...) {
			for _, n := range anyCount {
				post.Each(n, side, func(i int) int { return i })
			}
		}
	})
}
