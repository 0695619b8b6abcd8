package trie_test

import (
	"runtime"
	"slices"
	"testing"
	"time"

	"skein/api"
	"skein/trie"
)

func wantRefused(t *testing.T, promise string, slots int, c api.Case, want api.Errno) {
	t.Helper()
	run, s, regs, err := trie.Play(slots, c)
	if err != want || !sameRun(run, api.Run{}) || len(s) != 0 || len(regs) != 0 {
		t.Errorf("%s: Play(%d, %d workers, until %d): %+v, %v, %v, %v", promise, slots, len(c.Work), c.Until, run, s, regs, err)
	}
}

func TestPlayRefuses(t *testing.T) {
	good := work([]api.Call{put(1, 2, 0)})
	many := work(make([]api.Call, 64))
	noCases := []api.Case{{}, {Work: [][]api.Call{}}, {Work: make([][]api.Call, 9)}, {Work: make([][]api.Call, 1000)}, work(make([]api.Call, 65)), work(nil, make([]api.Call, 65))}
	for _, until := range []int{lowest, -1, 20001, highest} {
		c := good
		c.Until = until
		noCases = append(noCases, c)
	}
	for _, n := range noSizes {
		wantRefused(t, "P12.10: pool.New's error", n, good, api.ErrPoolMany)
		for _, c := range noCases {
			wantRefused(t, "P12.10: pool.New's error first", n, c, api.ErrPoolMany)
		}
	}
	for _, n := range []int{1, 2, 4096} {
		for _, c := range noCases {
			wantRefused(t, "P12.10: crew's error", n, c, api.ErrCrewCase)
		}
		for _, c := range []api.Case{good, many, {Work: make([][]api.Call, 8)}, {Work: [][]api.Call{nil}, Until: 20000}} {
			run, s, regs, err := trie.Play(n, c)
			if err != api.OK || len(s) != n || len(regs) != len(c.Work) || len(run.Answers) != len(c.Work) {
				t.Errorf("P12.10: Play(%d, %+v): %d slots, %v, %v", n, c, len(s), regs, err)
			}
			for _, list := range regs {
				if len(list) != 4 {
					t.Errorf("P12.10: registers %v", regs)
				}
			}
		}
	}
}

// told: calls of one worker, with what each answers and how many lines it does.
type told struct {
	call  api.Call
	want  api.Answer
	lines int
}

// wantTold plays the calls of a worker, all others doing nothing.
func wantTold(t *testing.T, promise string, slots, k int, regs []int, list ...told) {
	t.Helper()
	c := api.Case{Work: make([][]api.Call, k+1)}
	for _, x := range list {
		c.Work[k] = append(c.Work[k], x.call)
	}
	run, all := wantModel(t, promise, slots, c)
	if len(run.Answers[k]) != len(list) || run.Cut {
		t.Fatalf("%s: %+v", promise, run)
	}
	for i, a := range run.Answers[k] {
		if x := list[i]; !sameAnswer(a, x.want) || a.Own != x.lines {
			t.Fatalf("%s: call %d, %+v: %+v, want %+v in %d lines", promise, i, x.call, a, x.want, x.lines)
		}
	}
	for j, got := range all {
		want := make([]int, 4)
		if j == k {
			want = regs
		}
		if !slices.Equal(got, want) {
			t.Fatalf("%s: registers of worker %d: %v, want %v", promise, j, got, want)
		}
	}
}

// h: the first handle of a slot.
func h(slot int) int { return word(slot, 1) }

func TestPlayExample(t *testing.T) {
	for k := range 8 {
		wantTold(t, "example", 9, k, []int{h(7), 0, 0, 0},
			told{put(5, 50, 0), edited(h(1), nil, []int{h(1)}), 3},
			told{put(7, 70, 0), edited(h(3), nil, []int{h(2), h(3)}), 7},
			told{put(6, 60, 0), edited(h(6), []int{h(3)}, []int{h(4), h(5), h(6)}), 11},
			told{rank(7, 0), counted(2), 3},
			told{nth(1, 0), paired(6, 60), 4},
			told{after(5, 0), paired(6, 60), 3},
			told{after(7, 0), failed(api.ErrTrieNone), 1},
			told{drop(6, 0), had(60, h(7), []int{h(4), h(5), h(6)}, []int{h(7)}), 6},
		)
	}
}

// Each call, each of its fields.
func TestPlayCalls(t *testing.T) {
	ok := api.Answer{}
	none := failed(api.ErrTrieNone)
	wantTold(t, "P12.10", 12, 1, []int{h(3), h(6), h(1), h(6)},
		told{put(5, 50, 0), edited(h(1), nil, []int{h(1)}), 3},
		told{find(5, 0), found(50), 1},
		told{find(6, 0), ok, 1},
		told{find(5, 1), ok, 1},
		told{copied(0, 2), ok, 1},
		told{put(7, 0, 0), edited(h(3), nil, []int{h(2), h(3)}), 7},
		told{find(7, 0), found(0), 2},
		told{find(7, 2), ok, 1},
		told{put(7, 0, 0), had(0, h(3), nil, nil), 2},
		told{copied(0, 1), ok, 1},
		told{put(7, -4, 1), had(0, h(5), []int{h(2), h(3)}, []int{h(4), h(5)}), 8},
		told{diff(0, 1), listed(7, 1, 0, 1, -4), 4},
		told{diff(1, 0), listed(7, 1, -4, 1, 0), 4},
		told{diff(2, 1), listed(7, 0, 0, 1, -4), 3},
		told{diff(1, 2), listed(7, 1, -4, 0, 0), 3},
		told{diff(3, 1), listed(5, 0, 0, 1, 50, 7, 0, 0, 1, -4), 3},
		told{diff(1, 1), listed(), 1},
		told{diff(3, 3), listed(), 1},
		told{count(1), counted(2), 1},
		told{count(2), counted(1), 1},
		told{count(3), counted(0), 1},
		told{rank(6, 1), counted(1), 2},
		told{rank(most, 1), counted(2), 1},
		told{nth(1, 1), paired(7, -4), 3},
		told{nth(2, 1), none, 1},
		told{nth(0, 3), none, 1},
		told{after(5, 1), paired(7, -4), 2},
		told{after(7, 1), none, 1},
		told{after(most, 1), none, 1},
		told{walk(0, most, 1), walked(api.Pair{Key: 5, Value: 50}, api.Pair{Key: 7, Value: -4}), 3},
		told{walk(6, 7, 0), walked(api.Pair{Key: 7}), 2},
		told{walk(7, 6, 0), walked(), 1},
		told{walk(0, most, 3), walked(), 1},
		told{nodes(1), listed(h(5), h(1), h(4)), 3},
		told{nodes(3), listed(), 1},
		told{drop(5, 1), had(50, h(4), []int{h(1), h(5)}, nil), 2},
		told{drop(5, 1), none, 1},
		told{drop(7, 1), had(-4, 0, []int{h(4)}, nil), 1},
		told{drop(7, 1), none, 1},
		told{put(most, highest, 3), edited(h(6), nil, []int{h(6)}), 3},
		told{copied(3, 1), ok, 1},
		told{find(most, 1), found(highest), 1},
		told{copied(1, 1), ok, 1},
	)
}

// Undo and Clean: ahead of any Put, twice, behind a Put or a Drop that failed, of a change that changed nothing.
func TestPlayUndo(t *testing.T) {
	ok, gone := api.Answer{}, failed(api.ErrPoolGone)
	wantTold(t, "P12.10: ahead of any Put", 3, 0, []int{0, 0, 0, 0},
		told{undo(), ok, 1}, told{clean(), ok, 1}, told{undo(), ok, 1})
	wantTold(t, "P12.10: twice", 3, 0, []int{h(3), 0, 0, 0},
		told{put(1, 1, 0), edited(h(1), nil, []int{h(1)}), 3},
		told{clean(), ok, 1},
		told{put(2, 2, 0), edited(h(3), nil, []int{h(2), h(3)}), 7},
		told{clean(), ok, 1},
		told{undo(), ok, 8},
		told{undo(), gone, 1},
		told{find(1, 0), gone, 1},
	)
	wantTold(t, "P12.10: Clean twice", 6, 0, []int{h(5), h(3), 0, 0},
		told{put(1, 1, 0), edited(h(1), nil, []int{h(1)}), 3},
		told{put(2, 2, 0), edited(h(3), nil, []int{h(2), h(3)}), 7},
		told{copied(0, 1), ok, 1},
		told{put(2, 3, 0), had(2, h(5), []int{h(2), h(3)}, []int{h(4), h(5)}), 8},
		told{clean(), ok, 8},
		told{clean(), gone, 1},
		told{find(2, 0), found(3), 2},
		told{find(2, 1), gone, 1},
	)
	wantTold(t, "P12.10: that of the last one that ended well", 4, 0, []int{word(1, 1), 0, 0, 0},
		told{put(1, 1, 0), edited(h(1), nil, []int{h(1)}), 3},
		told{put(2, 2, 1), edited(h(2), nil, []int{h(2)}), 3},
		told{put(2, 3, 1), had(2, h(3), []int{h(2)}, []int{h(3)}), 4},
		told{put(-1, 3, 1), failed(api.ErrTrieKey), 1},
		told{drop(7, 1), failed(api.ErrTrieNone), 1},
		told{put(9, 3, 1), failed(api.ErrPoolFull), 1 + 3 + 1 + 4},
		told{put(1, 3, 4), failed(api.ErrTrieRoot), 1},
		told{clean(), ok, 4},
		told{drop(2, 1), had(3, 0, []int{h(3)}, nil), 1},
		told{undo(), ok, 1},
		told{clean(), ok, 4},
	)
	wantTold(t, "P12.10: of a change that changed nothing", 3, 0, []int{h(1), 0, 0, 0},
		told{put(1, 1, 0), edited(h(1), nil, []int{h(1)}), 3},
		told{put(1, 1, 0), had(1, h(1), nil, nil), 1},
		told{undo(), ok, 1},
		told{clean(), ok, 1},
		told{find(1, 0), found(1), 1},
	)
}

// What is given ahead of an error is told.
func TestPlayTellsWhatWasGivenAhead(t *testing.T) {
	begin := []api.Call{put(8, 80, 0), put(9, 90, 0), copied(0, 1), put(1, 10, 0), put(8, 81, 1), clean()}
	c := work(append(begin, walk(0, most, 0), diff(0, 3), diff(3, 0), nodes(0), find(8, 0), diff(1, 0)))
	run, _ := wantModel(t, "P12.10", 12, c)
	a := run.Answers[0][len(begin):]
	for i, want := range []api.Answer{
		{Pairs: ten(1), Err: api.ErrPoolGone}, {Ints: []int{1, 1, 10, 0, 0}, Err: api.ErrPoolGone}, {Ints: []int{1, 0, 0, 1, 10}, Err: api.ErrPoolGone},
		{Err: api.ErrPoolGone}, {Err: api.ErrPoolGone}, {Ints: []int{1, 0, 0, 1, 10}, Err: api.ErrPoolGone},
	} {
		if !sameAnswer(a[i], want) {
			t.Errorf("P12.10: %+v, want %+v", a[i], want)
		}
	}
}

func TestPlayRegistersThatAreNone(t *testing.T) {
	for _, r := range noRegs {
		list := []told{{put(5, 50, 0), edited(h(1), nil, []int{h(1)}), 3}}
		for _, c := range []api.Call{
			find(5, r), put(5, 1, r), drop(5, r), count(r), rank(5, r), nth(0, r), after(5, r), walk(0, most, r), nodes(r),
			find(-1, r), put(most+1, 1, r), drop(lowest, r), rank(highest, r), after(-1, r), after(most, r), walk(-1, most+1, r), nth(-1, r),
			copied(r, 0), copied(0, r), copied(r, r), copied(r, -r), diff(r, 0), diff(0, r), diff(r, r), diff(0, highest),
		} {
			list = append(list, told{c, failed(api.ErrTrieRoot), 1})
		}
		list = append(list, told{clean(), api.Answer{}, 1}, told{find(5, 0), found(50), 1})
		wantTold(t, "P12.10: a register that is none", 5, 0, []int{h(1), 0, 0, 0}, list...)
	}
	// 3 is the last one.
	wantTold(t, "P12.10", 5, 0, []int{h(1), 0, 0, h(1)}, told{put(5, 50, 3), edited(h(1), nil, []int{h(1)}), 3}, told{copied(3, 0), api.Answer{}, 1}, told{diff(0, 3), listed(), 1}, told{find(5, 3), found(50), 1})
}

func TestPlayKindsThatCannotBe(t *testing.T) {
	for _, kind := range []int{lowest, lowest + 1, -1 << 32, -13, -1, 0, 14, 15, 26, 101, 102, 1 << 32, 1<<32 + 1, highest - 1, highest} {
		wantTold(t, "P12.10: a Kind that can't be", 5, 0, []int{h(1), 0, 0, 0},
			told{put(5, 50, 0), edited(h(1), nil, []int{h(1)}), 3},
			told{api.Call{Kind: kind, A: 5, B: 1}, failed(api.ErrTrieCall), 1},
			told{api.Call{Kind: kind, A: -1, B: 9, C: 9}, failed(api.ErrTrieCall), 1},
			told{api.Call{Kind: kind, A: 5, C: -1, Pairs: ten(1, 2)}, failed(api.ErrTrieCall), 1},
			told{find(5, 0), found(50), 1},
		)
	}
}

// Keys that are none: one line, and all is as it was.
func TestPlayNoKeys(t *testing.T) {
	for _, key := range noKeys {
		no := failed(api.ErrTrieKey)
		list := []told{{put(5, 50, 0), edited(h(1), nil, []int{h(1)}), 3}}
		for r := range 4 {
			list = append(list, told{find(key, r), no, 1}, told{put(key, 1, r), no, 1}, told{drop(key, r), no, 1}, told{rank(key, r), no, 1}, told{after(key, r), no, 1},
				told{walk(key, 5, r), no, 1}, told{walk(5, key, r), no, 1}, told{walk(key, key, r), no, 1})
		}
		list = append(list, told{undo(), api.Answer{}, 4})
		wantTold(t, "P12.10: no key", 5, 0, []int{h(1), 0, 0, 0}, list...)
	}
}

// Fields that a call has no use for are nothing to it.
func TestPlayFieldsWithoutUse(t *testing.T) {
	r := mixer(11)
	mixedPlays(400, false, func(x mixed) {
		c := plainCase(x.c)
		for _, calls := range c.Work {
			for i := range calls {
				odd := func(field *int) { *field = r.one(farNumbers) }
				call := &calls[i]
				call.Pairs = ten(r.below(9), 3)
				switch call.Kind {
				case 4, 5:
					odd(&call.A)
					odd(&call.B)
					odd(&call.C)
				case 7, 13:
					odd(&call.A)
					odd(&call.B)
				case 6, 12:
					odd(&call.C)
				case 1, 3, 8, 9, 10:
					odd(&call.B)
				}
			}
		}
		run, s, regs, err := trie.Play(x.slots, x.c)
		if err != api.OK {
			t.Fatalf("P12.10: %+v: %v", x, err)
		}
		wantPlay(t, "P12.10: fields without use", x.slots, c, run, s, regs)
	})
}

func TestPlayAgainstModel(t *testing.T) {
	ends := map[api.Errno]int{}
	cut, open := 0, 0
	mixedPlays(3000, true, func(x mixed) {
		run, _ := wantModel(t, "P12.10", x.slots, x.c)
		for _, a := range slices.Concat(run.Answers...) {
			ends[a.Err]++
		}
		if run.Cut {
			cut++
		}
		open += len(run.Open)
	})
	for _, err := range []api.Errno{api.OK, api.ErrTrieKey, api.ErrTrieRoot, api.ErrTrieNone, api.ErrTrieCall, api.ErrPoolFull, api.ErrPoolGone} {
		if ends[err] < 150 {
			t.Errorf("the cases are too plain: %v", ends)
		}
	}
	if cut < 100 || open < 250 {
		t.Errorf("the cases are too plain: %d cut, %d open", cut, open)
	}
}

// haltCases: two workers with Puts, Drops, Undos, and a pool that is full at last.
func haltCases() []mixed {
	return []mixed{
		{5, work([]api.Call{put(1, 1, 0), put(2, 2, 0), put(3, 3, 0), undo(), clean()}, []api.Call{put(9, 9, 0), drop(9, 0), clean(), walk(0, most, 0)})},
		{8, work([]api.Call{put(1, 1, 0), put(2, 2, 0), copied(0, 1), drop(1, 0), clean(), nodes(1), diff(0, 1)}, []api.Call{put(4, 4, 3), put(5, 5, 3), put(6, 6, 3), count(3), nth(1, 3), rank(5, 3)})},
		{4, work([]api.Call{put(1, 1, 0), put(2, 2, 0)}, []api.Call{put(1, 1, 0), put(2, 2, 0)}, []api.Call{put(7, 7, 1), undo(), after(3, 1)})},
	}
}

func TestPlayHaltsAtEveryLine(t *testing.T) {
	for _, x := range haltCases() {
		full, _ := wantModel(t, "P12.10", x.slots, x.c)
		for k := range x.c.Work {
			for at := 1; at <= full.Steps+1; at++ {
				c := x.c
				c.Halt = make([]int, k+1)
				c.Halt[k] = at
				for _, turns := range [][]int{nil, {1, 1, 0, 1, 0, 0, 1}, {0, 0, 0, 0, 0, 1, 1, 1, 1, 2, 2, 2}} {
					c.Turns = turns
					wantModel(t, "P12.10: halted", x.slots, c)
				}
			}
		}
	}
}

func TestPlayCutsAtEveryLine(t *testing.T) {
	for _, x := range haltCases() {
		full, _ := wantModel(t, "P12.10", x.slots, x.c)
		for until := 1; until <= full.Steps+1; until++ {
			c := x.c
			c.Until = until
			for _, turns := range [][]int{nil, {1, 1, 0, 1, 0, 0, 1}, slices.Repeat([]int{0}, 40), slices.Repeat([]int{1}, 40)} {
				c.Turns = turns
				run, _ := wantModel(t, "P12.10: cut", x.slots, c)
				if run.Steps > until {
					t.Fatalf("P12.10: %d steps, until %d", run.Steps, until)
				}
			}
		}
	}
}

func TestPlayInEveryOrder(t *testing.T) {
	for _, x := range []mixed{
		{3, work([]api.Call{put(1, 1, 0), put(2, 2, 0)}, []api.Call{put(1, 5, 0), drop(1, 0), clean()})},
		{2, work([]api.Call{put(1, 1, 0), put(2, 2, 0), find(1, 0)}, []api.Call{put(1, 5, 0), undo()})},
		{5, work([]api.Call{put(1, 1, 0), put(3, 2, 0), walk(0, 9, 0)}, []api.Call{put(1, 1, 0), put(1, 2, 0), clean()})},
	} {
		orders(2, 11, func(turns []int) {
			c := x.c
			c.Turns = turns
			wantModel(t, "P12.10: every order", x.slots, c)
		})
	}
}

func TestPlayIsTheSameEachTime(t *testing.T) {
	mixedPlays(300, true, func(x mixed) {
		run, s, regs, err := trie.Play(x.slots, x.c)
		for range 5 {
			again, s2, regs2, e := trie.Play(x.slots, x.c)
			if !sameRun(run, again) || !slices.Equal(s, s2) || !sameLists(regs, regs2) || e != err {
				t.Fatalf("rule 6: %+v\nonce %+v %v %v %v\nthen %+v %v %v %v", x, run, s, regs, err, again, s2, regs2, e)
			}
		}
	})
}

// roomy copies a list into one with spare room, in which something stands.
func roomy(list []int) []int {
	room := append(slices.Clone(list), 71, 72, 73)
	return room[:len(list)]
}

// untouched tells whether a roomy list is as it was.
func untouched(list, was []int) bool {
	return slices.Equal(list, was) && slices.Equal(list[:len(list)+3][len(list):], []int{71, 72, 73})
}

func cloned(rows [][]int) [][]int {
	var list [][]int
	for _, row := range rows {
		list = append(list, slices.Clone(row))
	}
	return list
}

func writePairs(list []api.Pair) {
	all := list[:cap(list)]
	for i := range all {
		all[i] = api.Pair{Key: -99, Value: -99}
	}
}

func TestPlayKeepsToItsOwnMemory(t *testing.T) {
	mixedPlays(600, true, func(x mixed) {
		c := plainCase(x.c)
		c.Turns, c.Halt = roomy(c.Turns), roomy(c.Halt)
		run, s, regs, _ := trie.Play(x.slots, c)
		if !untouched(c.Turns, x.c.Turns) || !untouched(c.Halt, x.c.Halt) {
			t.Fatalf("rule 3: Play changed what was handed in: %+v", c)
		}
		for k := range c.Work {
			for i, call := range c.Work[k] {
				if was := x.c.Work[k][i]; call.Kind != was.Kind || call.A != was.A || call.B != was.B || call.C != was.C {
					t.Fatalf("rule 3: Play changed a call: %+v, was %+v", call, was)
				}
				c.Work[k][i] = api.Call{Kind: -99}
			}
		}
		keptRun, keptRegs, keptSlots := plainRun(run), cloned(regs), slices.Clone(s)
		writeOver(c.Turns)
		writeOver(c.Halt)
		if !sameRun(run, keptRun) || !sameLists(regs, keptRegs) || !slices.Equal(s, keptSlots) {
			t.Fatalf("rule 3: an answer hangs on what was handed in: %+v", x)
		}
		for i := range regs {
			writeOver(regs[i])
			regs[i], keptRegs[i] = nil, nil
			if !sameLists(regs, keptRegs) || !sameRun(run, keptRun) {
				t.Fatalf("rule 3: two lists of registers share memory: %+v", x)
			}
		}
		for k, answers := range run.Answers {
			for i := range answers {
				writeOver(answers[i].Ints)
				writePairs(answers[i].Pairs)
				answers[i].Ints, answers[i].Pairs = nil, nil
				keptRun.Answers[k][i].Ints, keptRun.Answers[k][i].Pairs = nil, nil
				if !sameRun(run, keptRun) {
					t.Fatalf("rule 3: two lists of an answer share memory: %+v", x)
				}
			}
		}
		wantModel(t, "rule 3: behind answers that were written over", x.slots, x.c)
	})
}

func TestPlayLeavesNothing(t *testing.T) {
	before := runtime.NumGoroutine()
	mixedPlays(200, true, func(x mixed) { trie.Play(x.slots, x.c) })
	for range 500 {
		if runtime.NumGoroutine() <= before {
			return
		}
		time.Sleep(time.Millisecond)
	}
	t.Errorf("P12.10: %d goroutines, %d ahead of it", runtime.NumGoroutine(), before)
}
