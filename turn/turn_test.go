package turn_test

import (
	"math"
	"math/big"
	"slices"
	"testing"

	"skein/turn"
)

// crowds: numbers of workers: none, one, those around the eight that a case may have, and many.
var crowds = []int{0, 1, 2, 3, 5, 7, 8, 9, 10, 16, 17, 64, 1000}

// farTurns: turns at the ends of what an int holds, and around 0 and the numbers of workers.
var farTurns = []int{
	math.MinInt, math.MinInt + 1, math.MinInt + 7, -1 << 62, -1<<32 - 1, -1 << 32, -1<<31 - 1, -1 << 31,
	-1000, -64, -17, -16, -10, -9, -8, -7, -6, -5, -4, -3, -2, -1, 0, 1, 2, 3, 4, 5, 6, 7, 8, 9, 10, 16, 17, 64, 1000,
	1<<31 - 1, 1 << 31, 1<<32 - 1, 1 << 32, 1 << 62, math.MaxInt - 7, math.MaxInt - 1, math.MaxInt,
}

// who tells a list of that many workers in which just those are ready.
func who(workers int, ready ...int) []bool {
	list := make([]bool, workers)
	for _, w := range ready {
		list[w] = true
	}
	return list
}

func all(workers int) []bool {
	list := make([]bool, workers)
	for w := range list {
		list[w] = true
	}
	return list
}

// some tells a list of that many workers of which now these and now those are ready.
func some(workers, seed int) []bool {
	list := make([]bool, workers)
	for w := range list {
		mixed := uint64(seed*1009+w+1) * 0x9E3779B97F4A7C15
		mixed ^= mixed >> 29
		mixed *= 0xBF58476D1CE4E5B9
		list[w] = mixed>>63 == 0
	}
	return list
}

func numbers(ready []bool) []int {
	var list []int
	for w, is := range ready {
		if is {
			list = append(list, w)
		}
	}
	return list
}

// at tells t modulo n by the mathematics of whole numbers, never below 0.
func at(t, n int) int {
	return int(new(big.Int).Mod(big.NewInt(int64(t)), big.NewInt(int64(n))).Int64())
}

// plain is an order as the chapter's words say it; last is -1 while nobody has stepped.
type plain struct {
	turns []int
	last  int
}

func (p *plain) pick(ready []bool) int {
	list := numbers(ready)
	if len(list) == 0 {
		return -1
	}
	if len(p.turns) > 0 {
		p.last = list[at(p.turns[0], len(list))]
		p.turns = p.turns[1:]
		return p.last
	}
	for w := p.last + 1; w < len(ready); w++ {
		if ready[w] {
			p.last = w
			return w
		}
	}
	p.last = list[0]
	return p.last
}

// wantPicks asks for one pick of each list.
func wantPicks(t *testing.T, promise string, o *turn.Order, lists [][]bool, want ...int) {
	t.Helper()
	for i, ready := range lists {
		if got := o.Pick(ready); got != want[i] {
			t.Fatalf("%s: pick %d of %v: %d, want %d", promise, i+1, numbers(ready), got, want[i])
		}
	}
}

// wantRow asks for picks in a row while the same ones are ready.
func wantRow(t *testing.T, promise string, o *turn.Order, ready []bool, want ...int) {
	t.Helper()
	for i, w := range want {
		if got := o.Pick(ready); got != w {
			t.Fatalf("%s: pick %d of %v: %d, want %d", promise, i+1, numbers(ready), got, w)
		}
	}
}

func wantLeft(t *testing.T, promise string, o *turn.Order, want int) {
	t.Helper()
	if got := o.Left(); got != want {
		t.Fatalf("%s: %d left, want %d", promise, got, want)
	}
}

func TestExample(t *testing.T) {
	three := all(3)
	o := turn.New([]int{5, -1})
	wantPicks(t, "P2.2", o, [][]bool{three, who(3, 0, 2), three, three, who(3), three}, 2, 2, 0, 1, -1, 2)
}

func TestNewHasItsTurns(t *testing.T) {
	for _, n := range []int{0, 1, 2, 8, 9, 20000} {
		turns := make([]int, n)
		for i := range turns {
			turns[i] = i*7 - 50
		}
		o := turn.New(turns)
		ready := all(5)
		for i, x := range turns {
			wantLeft(t, "P2.1", o, n-i)
			wantRow(t, "P2.1", o, ready, at(x, 5))
		}
		wantLeft(t, "P2.1", o, 0)
	}
}

func TestNobodyHasSteppedAtFirst(t *testing.T) {
	for _, turns := range [][]int{nil, {}} {
		wantLeft(t, "P2.1", turn.New(turns), 0)
		wantRow(t, "P2.1", turn.New(turns), all(3), 0, 1, 2, 0)
		wantRow(t, "P2.1", turn.New(turns), who(5, 3, 4), 3, 4, 3)
		wantRow(t, "P2.1", turn.New(turns), who(12, 11), 11, 11)
	}
}

func TestNobodyReadyChangesNothing(t *testing.T) {
	nobody := [][]bool{nil, {}, who(1), who(3), who(8), who(9), who(1000)}
	for _, none := range nobody {
		o := turn.New([]int{1, 2, math.MinInt})
		pickNone := func(left int) {
			t.Helper()
			wantRow(t, "P2.2", o, none, -1, -1)
			wantLeft(t, "P2.2", o, left)
		}
		pickNone(3)
		wantRow(t, "P2.2", o, all(3), 1)
		pickNone(2)
		wantRow(t, "P2.2", o, all(3), 2, at(math.MinInt, 3))
		pickNone(0)
		wantRow(t, "P2.2", o, who(3, 1), 1)
		pickNone(0)
		wantRow(t, "P2.2", o, all(3), 2)
		pickNone(0)
		wantRow(t, "P2.2", o, all(3), 0)

		fresh := turn.New(nil)
		wantRow(t, "P2.2", fresh, none, -1)
		wantRow(t, "P2.2", fresh, all(3), 0)
	}
}

func TestTurnIsModuloThoseReady(t *testing.T) {
	for _, workers := range crowds {
		for seed := range 6 {
			ready := some(workers, seed)
			if seed == 0 {
				ready = all(workers)
			}
			list := numbers(ready)
			if len(list) == 0 {
				continue
			}
			o := turn.New(farTurns)
			for i, x := range farTurns {
				want := list[at(x, len(list))]
				if got := o.Pick(ready); got != want {
					t.Fatalf("P2.2: turn %d of %v: %d, want %d", x, list, got, want)
				}
				wantLeft(t, "P2.3", o, len(farTurns)-i-1)
			}
		}
	}
}

func TestOneReadyIsPicked(t *testing.T) {
	for _, workers := range crowds {
		for w := 0; w < workers; w += 1 + workers/20 {
			o := turn.New(farTurns)
			for range len(farTurns) + 3 {
				wantRow(t, "P2.2", o, who(workers, w), w)
			}
		}
	}
}

func TestOneTurnAPick(t *testing.T) {
	o := turn.New([]int{0, 1, 0, 1})
	wantRow(t, "P2.2", o, who(3, 1), 1)
	wantLeft(t, "P2.2", o, 3)
	wantRow(t, "P2.2", o, all(3), 1)
	wantLeft(t, "P2.2", o, 2)
	wantRow(t, "P2.2", o, who(9, 4, 8), 4, 8)
	wantLeft(t, "P2.2", o, 0)
	wantRow(t, "P2.2", o, who(9, 4, 8), 4)
	wantLeft(t, "P2.2", o, 0)
}

// Who stepped last is kept also where a turn chose it, and where it isn't ready, or not even there, any more.
func TestBehindTheLastTurn(t *testing.T) {
	wantRow(t, "P2.2", turn.New([]int{0}), all(3), 0, 1, 2, 0)
	wantRow(t, "P2.2", turn.New([]int{1}), all(3), 1, 2, 0, 1)
	wantRow(t, "P2.2", turn.New([]int{2}), all(3), 2, 0, 1, 2)
	wantRow(t, "P2.2", turn.New([]int{0, 2, 1}), all(4), 0, 2, 1, 2, 3, 0)

	o := turn.New([]int{2})
	lists := [][]bool{all(5), who(5, 0, 1, 4), who(5, 0, 1, 4), who(5, 0), who(5, 0, 3), who(5, 0, 2, 3), who(5, 0, 2), who(5, 1)}
	wantPicks(t, "P2.2", o, lists, 2, 4, 0, 0, 3, 0, 2, 1)

	o = turn.New(nil)
	lists = [][]bool{who(20, 17), all(3), all(3), who(9, 8), all(8), who(20, 8, 19), all(2), all(20), nil, all(20)}
	wantPicks(t, "P2.2", o, lists, 17, 0, 1, 8, 0, 8, 0, 1, -1, 2)
}

func TestLikeThePlainOrder(t *testing.T) {
	for seed := range 300 {
		workers := crowds[seed%len(crowds)]
		turns := make([]int, seed%23)
		for i := range turns {
			turns[i] = farTurns[(seed*31+i*17)%len(farTurns)]
		}
		o, p := turn.New(turns), &plain{turns, -1}
		for i := range 60 {
			ready := some(workers, seed*100+i)
			if i%7 == 6 {
				ready = some(crowds[(seed+i)%len(crowds)], i)
			}
			got, want := o.Pick(ready), p.pick(ready)
			if got != want || o.Left() != len(p.turns) {
				t.Fatalf("P2.2: seed %d, pick %d of %v: %d with %d left, want %d with %d left", seed, i+1, numbers(ready), got, o.Left(), want, len(p.turns))
			}
		}
	}
}

// A copy is made at each point of the way: ahead of the turns, between them, behind them.
func TestCopyGoesOnLikeIt(t *testing.T) {
	turns := []int{4, -1, 7, 0, math.MinInt}
	for behind := range 12 {
		o := turn.New(turns)
		for i := range behind {
			o.Pick(some(9, i))
		}
		p := o.Copy()
		if p == o {
			t.Fatal("P2.3: the copy is the order itself")
		}
		wantLeft(t, "P2.3", p, o.Left())
		for i := range 20 {
			ready := some(9, 100+i)
			a, b := o.Pick(ready), p.Pick(ready)
			if a != b || o.Left() != p.Left() {
				t.Fatalf("P2.3: copied behind %d picks, pick %d: %d with %d left, the copy %d with %d left", behind, i+1, a, o.Left(), b, p.Left())
			}
		}
	}
}

func TestCopyAndOrderGoApart(t *testing.T) {
	four := all(4)
	o := turn.New([]int{3, 1, 2, 0})
	wantRow(t, "P2.3", o, four, 3)
	p := o.Copy()
	wantRow(t, "P2.3", o, four, 1, 2)
	wantLeft(t, "P2.3", o, 1)
	wantLeft(t, "P2.3", p, 3)
	wantRow(t, "P2.3", p, who(4, 0, 2), 2)
	q := p.Copy()
	wantRow(t, "P2.3", p, four, 2, 0, 1)
	wantLeft(t, "P2.3", p, 0)
	wantLeft(t, "P2.3", q, 2)
	wantRow(t, "P2.3", o, four, 0, 1, 2)
	wantRow(t, "P2.3", q, four, 2, 0, 1)
	wantRow(t, "P2.3", p, four, 2)

	r := p.Copy()
	wantRow(t, "P2.3", p, four, 3, 0, 1)
	wantRow(t, "P2.3", r, four, 3)
	wantRow(t, "P2.3", p, four, 2)
	wantRow(t, "P2.3", r, four, 0)
}

func TestCopyOfAnOrderWithoutTurns(t *testing.T) {
	p := turn.New(nil).Copy()
	wantLeft(t, "P2.3", p, 0)
	wantRow(t, "P2.3", p, all(2), 0, 1, 0)
}

func TestLeftChangesNothing(t *testing.T) {
	o := turn.New([]int{1, 1})
	for range 3 {
		wantLeft(t, "P2.3", o, 2)
	}
	wantRow(t, "P2.3", o, all(3), 1, 1)
	wantLeft(t, "P2.3", o, 0)
	wantRow(t, "P2.3", o, all(3), 2)
}

// The lists belong to who handed them in: to change them behind the call changes no order, and no call changes them.
func TestListsAreNotKept(t *testing.T) {
	room := []int{2, 1, 0, 77, 78}
	turns := room[:3]
	o := turn.New(turns)
	p := o.Copy()
	for i := range room {
		room[i] = 1
	}
	wantLeft(t, "P2.1", o, 3)
	wantRow(t, "P2.1", o, all(3), 2, 1, 0)
	wantRow(t, "P2.1", p, all(3), 2, 1, 0)
	wantRow(t, "P2.1", o, all(3), 1)

	for _, workers := range []int{3, 8, 9, 20} {
		o = turn.New([]int{1, 1})
		ready := all(workers)
		wantRow(t, "P2.2", o, ready, 1)
		clear(ready)
		wantRow(t, "P2.2", o, ready, -1)
		ready[workers-1] = true
		wantRow(t, "P2.2", o, ready, workers-1, workers-1)
		ready[0] = true
		wantRow(t, "P2.2", o, ready, 0, workers-1)
	}
}

func TestListsAreNotChanged(t *testing.T) {
	for _, workers := range crowds {
		room := append(some(workers, 5), true, false, true)
		ready := room[:workers]
		turns := slices.Clone(farTurns)
		wasRoom, wasTurns := slices.Clone(room), slices.Clone(turns)
		o := turn.New(turns[:9])
		for range 20 {
			o.Pick(ready)
			o.Copy().Pick(ready)
		}
		if !slices.Equal(room, wasRoom) || !slices.Equal(turns, wasTurns) {
			t.Fatalf("rule 3: a list of %d workers, or the turns, changed", workers)
		}
	}
}

// Two orders of one list of turns use it up each for itself.
func TestOrdersDoNotTouch(t *testing.T) {
	turns := []int{2, 0, 1}
	o, p := turn.New(turns), turn.New(turns)
	wantRow(t, "P2.1", o, all(3), 2, 0, 1, 2)
	wantLeft(t, "P2.1", p, 3)
	wantRow(t, "P2.1", p, all(3), 2, 0)
	wantRow(t, "P2.1", o, all(3), 0)
	wantRow(t, "P2.1", p, all(3), 1, 2)
}

func TestPickedIsReady(t *testing.T) {
	for seed := range 200 {
		o := turn.New(farTurns[seed%len(farTurns):])
		for i := range 60 {
			ready := some(crowds[(seed+i*5)%len(crowds)], seed*61+i)
			got := o.Pick(ready)
			if got == -1 && !slices.Contains(ready, true) {
				continue
			}
			if got < 0 || got >= len(ready) || !ready[got] {
				t.Fatalf("P2.4: of %v that are ready %d is picked", numbers(ready), got)
			}
		}
	}
}

// Wherever the turns left off, each window of n picks has each of the n that are ready once.
func TestRoundAndRound(t *testing.T) {
	for _, workers := range crowds {
		for seed := range 8 {
			ready := some(workers, seed)
			list := numbers(ready)
			o := turn.New(farTurns[:seed])
			for range seed {
				o.Pick(all(workers + 1))
			}
			wantLeft(t, "P2.4", o, 0)
			var row []int
			for range 3 * len(list) {
				row = append(row, o.Pick(ready))
			}
			for from := 0; from+len(list) <= len(row); from++ {
				window := slices.Sorted(slices.Values(row[from : from+len(list)]))
				if !slices.Equal(window, list) {
					t.Fatalf("P2.4: picks %v, of %v that are ready", row[from:from+len(list)], list)
				}
			}
		}
	}
}

// The chapter's Ways: up to eight workers are gathered in an array, so that a step of a run asks for no memory.
func TestFewWorkersNeedNoMemory(t *testing.T) {
	for workers := range 9 {
		o := turn.New(farTurns)
		ready := all(workers)
		if n := testing.AllocsPerRun(100, func() { o.Pick(ready) }); n != 0 {
			t.Errorf("a pick of %d workers asked for memory %v times", workers, n)
		}
	}
}
