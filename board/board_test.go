package board_test

import (
	"slices"
	"testing"

	"skein/api"
	"skein/board"
	"skein/crew"
)

func TestExampleAlone(t *testing.T) {
	b := newBoard(t, is(5, 1), is(3, 2))
	wantBoard(t, "P9.2: example 1", b, is(3, 2), is(5, 1))
	for _, x := range []struct {
		call api.Call
		want api.Answer
	}{
		{put(4, 9), api.Answer{Ok: true}},
		{put(4, 9), api.Answer{}},
		{add(4, 1), api.Answer{}},
		{swap(4, 9, 8), api.Answer{Ok: true}},
		{swap(4, 9, 7), api.Answer{}},
		{drop(4), api.Answer{N: 8}},
		{drop(4), api.Answer{Err: api.ErrBoardNone}},
		{get(-1), api.Answer{Err: api.ErrBoardName}},
	} {
		if got := byName(b)(nil, x.call); !sameAnswer(got, x.want) {
			t.Errorf("P9.2: example 1: %+v: %+v, want %+v", x.call, got, x.want)
		}
	}
	wantBoard(t, "P9.2: example 1", b, is(3, 2), is(5, 1))
}

func TestExampleOfARound(t *testing.T) {
	c := work([]api.Call{put(1, 1)}, []api.Call{put(2, 2)})
	c.Turns = []int{0, 1, 1, 0, 0, 0}
	wantPlay(t, "P9.2: example 2", nil, c, api.Run{Steps: 6, Answers: [][]api.Answer{
		{{Begin: 1, End: 6, Own: 4, Ok: true}}, {{Begin: 2, End: 3, Own: 2, Ok: true}},
	}}, []api.Pair{is(1, 1), is(2, 2)})
}

func TestNew(t *testing.T) {
	for _, start := range [][]api.Pair{nil, {}, make([]api.Pair, 0, 5)} {
		b, err := board.New(start)
		if b == nil || err != api.OK {
			t.Fatalf("P9.1: of none: %v, %v", b, err)
		}
		wantBoard(t, "P9.1: of none", b)
	}
	for _, name := range someNames {
		for _, value := range farNumbers {
			wantBoard(t, "P9.1: of one pair", newBoard(t, is(name, value)), is(name, value))
		}
	}
	wantBoard(t, "P9.1: the edges", newBoard(t, is(maxKey, 0), is(0, lowest), is(maxKey-1, highest), is(1, -1)), is(0, lowest), is(1, -1), is(maxKey-1, highest), is(maxKey, 0))
}

func TestNewTakesTheLastPair(t *testing.T) {
	wantBoard(t, "P9.1: twice", newBoard(t, is(5, 1), is(3, 2), is(5, 9)), is(3, 2), is(5, 9))
	wantBoard(t, "P9.1: twice, side by side", newBoard(t, is(5, 9), is(5, 1)), is(5, 1))
	wantBoard(t, "P9.1: the same twice", newBoard(t, is(0, 0), is(0, 0)), is(0, 0))
	wantBoard(t, "P9.1: back again", newBoard(t, is(7, 1), is(7, 2), is(7, 1)), is(7, 1))
	wantBoard(t, "P9.1: 0 is the last", newBoard(t, is(7, 1), is(8, 3), is(7, 0)), is(7, 0), is(8, 3))
}

// In whatever order the pairs of a start stand, names rise in the table.
func TestNewSorts(t *testing.T) {
	r := mixer(1)
	for n := 0; n <= 64; n++ {
		for range 5 {
			start := full(n)
			for i := range start {
				k := i + r.below(n-i)
				start[i], start[k] = start[k], start[i]
			}
			wantBoard(t, "P9.1: mixed", newBoard(t, start...), full(n)...)
			slices.Reverse(start)
			wantBoard(t, "P9.1: mixed", newBoard(t, start...), full(n)...)
		}
		start := full(n)
		slices.Reverse(start)
		wantBoard(t, "P9.1: falling", newBoard(t, start...), full(n)...)
	}
}

// Of 64 names there may be any number of pairs.
func TestNewOfManyPairs(t *testing.T) {
	for _, names := range []int{1, 2, 63, 64} {
		m, r := newModel(nil), mixer(names)
		var start []api.Pair
		for i := range 50000 {
			p := is(3*r.below(names), i)
			start = append(start, p)
			m.values[p.Key] = p.Value
		}
		b := newBoard(t, start...)
		wantBoard(t, "P9.1: many pairs of few names", b, m.table()...)
		if b.Count(nil) != names {
			t.Errorf("P9.1: %d names, want %d", b.Count(nil), names)
		}
		if b, err := board.New(append(start, full(66)...)); b != nil || err != api.ErrBoardFull {
			t.Errorf("P9.1: many names behind many pairs: %v, %v", b, err)
		}
	}
}

func TestNewOfTooMany(t *testing.T) {
	refuses := func(start []api.Pair, want api.Errno) {
		t.Helper()
		if b, err := board.New(start); b != nil || err != want {
			t.Errorf("P9.1: New of %d pairs: %v, %v, want %v", len(start), b, err, want)
		}
	}
	wantBoard(t, "P9.1: 64 names", newBoard(t, full(64)...), full(64)...)
	twice := append(full(64), full(64)...)
	wantBoard(t, "P9.1: 64 names, twice", newBoard(t, twice...), full(64)...)
	for _, n := range []int{65, 66, 128, 5000} {
		refuses(full(n), api.ErrBoardFull)
	}
	for _, name := range []int{1, 5, 127, 128, maxKey} {
		refuses(append(full(64), is(name, 1)), api.ErrBoardFull)
		refuses(append([]api.Pair{is(name, 1)}, full(64)...), api.ErrBoardFull)
		refuses(append(twice, is(name, 1)), api.ErrBoardFull)
	}
	for _, name := range noNames {
		for _, n := range []int{0, 1, 63, 64, 65, 66, 200} {
			refuses(append(full(n), is(name, 1)), api.ErrBoardName)
			refuses(append([]api.Pair{is(name, 1)}, full(n)...), api.ErrBoardName)
			refuses(slices.Concat(full(n), []api.Pair{is(name, 1)}, full(n), full(66)), api.ErrBoardName)
		}
	}
}

// Every call of what is no name answers that, whatever its values, and changes nothing.
func TestNoNames(t *testing.T) {
	for _, n := range []int{0, 1, 64} {
		b := newBoard(t, full(n)...)
		for _, name := range noNames {
			for _, c := range []api.Call{get(name), put(name, 0), put(name, 1), add(name, 0), add(name, 1), swap(name, 0, 1), swap(name, 0, 0), drop(name)} {
				if got := byName(b)(nil, c); !sameAnswer(got, api.Answer{Err: api.ErrBoardName}) {
					t.Errorf("P9.2: %+v with %d names: %+v", c, n, got)
				}
			}
		}
		wantBoard(t, "P9.2: behind no names", b, full(n)...)
	}
}

// wantAlone does a call alone over a board of its own and looks at its answer and at the table.
func wantAlone(t *testing.T, promise string, start []api.Pair, c api.Call, want api.Answer, table ...api.Pair) {
	t.Helper()
	b := newBoard(t, start...)
	if got := byName(b)(nil, c); !sameAnswer(got, want) {
		t.Errorf("%s: %+v over %v: %+v, want %+v", promise, c, start, got, want)
	}
	wantBoard(t, promise, b, table...)
}

func TestEdgesOfNamesAndValues(t *testing.T) {
	ok, no, none := api.Answer{Ok: true}, api.Answer{}, api.Answer{Err: api.ErrBoardNone}
	for _, name := range someNames {
		for _, value := range farNumbers {
			it, other := is(name, value), is(name, value+1)
			wantAlone(t, "P9.2: Get", nil, get(name), none)
			wantAlone(t, "P9.2: Get", []api.Pair{it}, get(name), api.Answer{N: value}, it)
			wantAlone(t, "P9.2: Put", nil, put(name, value), ok, it)
			wantAlone(t, "P9.2: Put of what it has", []api.Pair{it}, put(name, value), no, it)
			wantAlone(t, "P9.2: Put of another one", []api.Pair{other}, put(name, value), ok, it)
			wantAlone(t, "P9.2: Add", nil, add(name, value), ok, it)
			wantAlone(t, "P9.2: Add of what it has", []api.Pair{it}, add(name, value), no, it)
			wantAlone(t, "P9.2: Add of another one", []api.Pair{other}, add(name, value), no, other)
			wantAlone(t, "P9.2: Swap of nothing", nil, swap(name, value, value), none)
			wantAlone(t, "P9.2: Swap of nothing", nil, swap(name, 0, value), none)
			wantAlone(t, "P9.2: Swap of another one", []api.Pair{other}, swap(name, value, 5), no, other)
			wantAlone(t, "P9.2: Swap of another one for it", []api.Pair{other}, swap(name, value, value), no, other)
			wantAlone(t, "P9.2: Swap for itself", []api.Pair{it}, swap(name, value, value), ok, it)
			wantAlone(t, "P9.2: Swap", []api.Pair{it}, swap(name, value, value+1), ok, other)
			wantAlone(t, "P9.2: Drop", []api.Pair{it}, drop(name), api.Answer{N: value})
			wantAlone(t, "P9.2: Drop of nothing", nil, drop(name), none)
		}
	}
}

// Every place of a table: its first name, its last one, one in the midst, and names between them.
func TestEveryPlaceOfATable(t *testing.T) {
	for _, n := range []int{1, 2, 3, 4, 7, 8, 31, 63} {
		start := full(n)
		for i := range n {
			name := 2 * i
			wantAlone(t, "P9.2: Get", start, get(name), api.Answer{N: name}, start...)
			changed := slices.Clone(start)
			changed[i].Value = -5
			wantAlone(t, "P9.2: Put", start, put(name, -5), api.Answer{Ok: true}, changed...)
			wantAlone(t, "P9.2: Swap", start, swap(name, name, -5), api.Answer{Ok: true}, changed...)
			wantAlone(t, "P9.2: Drop", start, drop(name), api.Answer{N: name}, slices.Delete(slices.Clone(start), i, i+1)...)
			wantAlone(t, "P9.2: Add", start, add(name, -5), api.Answer{}, start...)
		}
		for i := range n {
			name := 2*i + 1
			more := slices.Insert(slices.Clone(start), i+1, is(name, -5))
			wantAlone(t, "P9.2: Put between", start, put(name, -5), api.Answer{Ok: true}, more...)
			wantAlone(t, "P9.2: Add between", start, add(name, -5), api.Answer{Ok: true}, more...)
			wantAlone(t, "P9.2: Get between", start, get(name), api.Answer{Err: api.ErrBoardNone}, start...)
			wantAlone(t, "P9.2: Drop between", start, drop(name), api.Answer{Err: api.ErrBoardNone}, start...)
			wantAlone(t, "P9.2: Swap between", start, swap(name, name, name), api.Answer{Err: api.ErrBoardNone}, start...)
		}
	}
}

func TestFullBoard(t *testing.T) {
	start := full(64)
	tooMany := api.Answer{Err: api.ErrBoardFull}
	for _, name := range []int{1, 63, 125, 127, 128, maxKey} {
		for _, value := range []int{0, 1, lowest, highest} {
			wantAlone(t, "P9.2: Put on a full board", start, put(name, value), tooMany, start...)
			wantAlone(t, "P9.2: Add on a full board", start, add(name, value), tooMany, start...)
		}
		wantAlone(t, "P9.2: Swap on a full board", start, swap(name, 0, 1), api.Answer{Err: api.ErrBoardNone}, start...)
		wantAlone(t, "P9.2: Drop on a full board", start, drop(name), api.Answer{Err: api.ErrBoardNone}, start...)
	}
	for i, p := range start {
		changed := slices.Clone(start)
		changed[i].Value = -7
		wantAlone(t, "P9.2: Put of a name of a full board", start, put(p.Key, -7), api.Answer{Ok: true}, changed...)
		wantAlone(t, "P9.2: Put of the same on a full board", start, put(p.Key, p.Value), api.Answer{}, start...)
		wantAlone(t, "P9.2: Add of a name of a full board", start, add(p.Key, -7), api.Answer{}, start...)
		wantAlone(t, "P9.2: Swap of a name of a full board", start, swap(p.Key, p.Value, -7), api.Answer{Ok: true}, changed...)
	}
	// One less is room for one, by a Put or an Add, and for no more.
	for _, more := range []api.Call{put(maxKey, 1), add(maxKey, 1)} {
		b := newBoard(t, start...)
		b.Drop(nil, 64)
		if a := byName(b)(nil, more); !sameAnswer(a, api.Answer{Ok: true}) {
			t.Errorf("P9.2: %+v behind a Drop of a full board: %+v", more, a)
		}
		want := append(slices.Delete(slices.Clone(start), 32, 33), is(maxKey, 1))
		wantBoard(t, "P9.2: full again", b, want...)
		for _, c := range []api.Call{put(64, 64), add(64, 64)} {
			if a := byName(b)(nil, c); !sameAnswer(a, tooMany) {
				t.Errorf("P9.2: %+v on a board that is full again: %+v", c, a)
			}
		}
		wantBoard(t, "P9.2: full again", b, want...)
	}
}

// A board is filled to its last name and emptied again.
func TestFillAndEmpty(t *testing.T) {
	b := newBoard(t)
	for i := range 64 {
		if ok, err := b.Add(nil, 126-2*i, 126-2*i); !ok || err != api.OK {
			t.Fatalf("P9.2: Add %d: %v, %v", i+1, ok, err)
		}
		wantBoard(t, "P9.2: filled", b, full(64)[63-i:]...)
	}
	for i := range 64 {
		if v, err := b.Drop(nil, 2*i); v != 2*i || err != api.OK {
			t.Fatalf("P9.2: Drop %d: %d, %v", i+1, v, err)
		}
		wantBoard(t, "P9.2: emptied", b, full(64)[i+1:]...)
	}
}

func TestAloneAgainstModel(t *testing.T) {
	r := mixer(9)
	for range 400 {
		names := [][]int{{5}, {3, 4, 5}, {0, 1, 2, 103, 110, 1000, maxKey - 1, maxKey}}[r.below(3)]
		start := r.start(names)
		b, m := newBoard(t, start...), newModel(start)
		for range 60 {
			c := r.call(names, true)
			if got, want := byName(b)(nil, c), m.alone(c); !sameAnswer(got, want) {
				t.Fatalf("P9.2: %+v: %+v, want %+v", c, got, want)
			}
			wantBoard(t, "P9.2", b, m.table()...)
		}
	}
}

// wantLines does a call by its name, and looks by another worker's All at the table behind each of its lines.
func wantLines(t *testing.T, promise string, start []api.Pair, call api.Call, want api.Answer, tables ...[]api.Pair) {
	t.Helper()
	c := work([]api.Call{call}, slices.Repeat([]api.Call{all()}, len(tables)))
	for range tables {
		c.Turns = append(c.Turns, 0, 1)
	}
	run, err := crew.Run(c, byName(newBoard(t, start...)))
	if err != api.OK || len(run.Answers[0]) != 1 || run.Steps != 2*len(tables) {
		t.Fatalf("%s: %+v: %+v, %v", promise, call, run, err)
	}
	if a := run.Answers[0][0]; !sameAnswer(a, want) || a.Own != len(tables) {
		t.Errorf("%s: %+v: %+v, want %+v in %d lines", promise, call, a, want, len(tables))
	}
	for i, table := range tables {
		if a := run.Answers[1][i]; !slices.Equal(a.Pairs, table) || a.Own != 1 {
			t.Errorf("%s: %+v: behind line %d: %v, want %v", promise, call, i+1, a, table)
		}
	}
}

func TestLines(t *testing.T) {
	was := []api.Pair{is(3, 2), is(5, 1)}
	ok, no, none := api.Answer{Ok: true}, api.Answer{}, api.Answer{Err: api.ErrBoardNone}
	wantLines(t, "P9.2: Get", was, get(5), api.Answer{N: 1}, was)
	wantLines(t, "P9.2: Get of nothing", was, get(4), none, was)
	wantLines(t, "P9.2: Put", was, put(4, 7), ok, was, []api.Pair{is(3, 2), is(4, 7), is(5, 1)})
	wantLines(t, "P9.2: Put of another value", was, put(5, 7), ok, was, []api.Pair{is(3, 2), is(5, 7)})
	wantLines(t, "P9.2: Put of the value", was, put(5, 1), no, was)
	wantLines(t, "P9.2: Add", was, add(6, 7), ok, was, []api.Pair{is(3, 2), is(5, 1), is(6, 7)})
	wantLines(t, "P9.2: Add of what is there", was, add(5, 7), no, was)
	wantLines(t, "P9.2: Swap", was, swap(3, 2, 7), ok, was, []api.Pair{is(3, 7), is(5, 1)})
	wantLines(t, "P9.2: Swap for itself", was, swap(3, 2, 2), ok, was)
	wantLines(t, "P9.2: Swap of another value", was, swap(3, 1, 7), no, was)
	wantLines(t, "P9.2: Swap of nothing", was, swap(4, 1, 7), none, was)
	wantLines(t, "P9.2: Drop", was, drop(3), api.Answer{N: 2}, was, []api.Pair{is(5, 1)})
	wantLines(t, "P9.2: Drop of nothing", was, drop(4), none, was)
	wantLines(t, "P9.2: All", was, all(), api.Answer{Pairs: was}, was)
	wantLines(t, "P9.2: Count", was, count(), api.Answer{N: 2}, was)
	wantLines(t, "P9.2: All of nothing", nil, all(), no, nil)
	wantLines(t, "P9.2: Count of nothing", nil, count(), no, nil)
}

func TestLinesOfAFullBoard(t *testing.T) {
	was := full(64)
	changed := slices.Clone(was)
	changed[5].Value = 7
	tooMany := api.Answer{Err: api.ErrBoardFull}
	wantLines(t, "P9.2: Put on a full board", was, put(11, 7), tooMany, was)
	wantLines(t, "P9.2: Put of a name that is there", was, put(10, 7), api.Answer{Ok: true}, was, changed)
	wantLines(t, "P9.2: Add on a full board", was, add(11, 7), tooMany, was)
	wantLines(t, "P9.2: Add of a name that is there", was, add(10, 7), api.Answer{}, was)
	wantLines(t, "P9.2: Drop of a full board", was, drop(126), api.Answer{N: 126}, was, was[:63])
	wantLines(t, "P9.2: All of a full board", was, all(), api.Answer{Pairs: was}, was)
	wantLines(t, "P9.2: Count of a full board", was, count(), api.Answer{N: 64}, was)
	last := full(63)
	wantLines(t, "P9.2: Put of the last name", last, put(maxKey, 7), api.Answer{Ok: true}, last, append(full(63), is(maxKey, 7)))
}

func TestLinesOfNoName(t *testing.T) {
	for _, was := range [][]api.Pair{nil, full(2), full(64)} {
		for _, name := range noNames {
			for _, c := range []api.Call{get(name), put(name, 1), add(name, 1), swap(name, 1, 2), swap(name, 1, 1), drop(name)} {
				wantLines(t, "P9.2: no name", was, c, api.Answer{Err: api.ErrBoardName}, was)
			}
		}
	}
}

// Calls that a greater one is made of do their own lines each, those that are refused too.
func TestLinesAddUp(t *testing.T) {
	for _, x := range []struct {
		calls []api.Call
		lines int
	}{
		{[]api.Call{get(-1), put(-1, 1), add(-1, 1), swap(-1, 1, 1), drop(-1)}, 5},
		{[]api.Call{get(5), all(), count(), get(4)}, 4},
		{[]api.Call{put(4, 1), put(4, 1), put(-1, 1), put(4, 2)}, 2 + 1 + 1 + 2},
		{[]api.Call{add(4, 1), add(4, 1), add(1<<32, 1)}, 2 + 1 + 1},
		{[]api.Call{swap(5, 1, 2), swap(5, 1, 2), swap(5, 2, 2), swap(4, 1, 1)}, 2 + 1 + 1 + 1},
		{[]api.Call{drop(5), drop(5), all(), drop(3), count()}, 2 + 1 + 1 + 2 + 1},
	} {
		do := byName(newBoard(t, is(3, 2), is(5, 1)))
		run, err := crew.Run(work([]api.Call{{}}), does(func(w *crew.Worker, _ api.Call) api.Answer {
			for _, c := range x.calls {
				do(w, c)
			}
			return api.Answer{}
		}))
		if err != api.OK || run.Steps != x.lines {
			t.Errorf("P9.2: %v in one call: %d lines, want %d", x.calls, run.Steps, x.lines)
		}
	}
}

// broken does a call of worker 0, broken off behind so many lines by all the others, which are worker 1's.
func broken(t *testing.T, b *board.Board, call api.Call, at int, others ...api.Call) api.Answer {
	t.Helper()
	c := work([]api.Call{call}, others)
	c.Turns = append(make([]int, at), slices.Repeat([]int{1}, 2*len(others))...)
	run, err := crew.Run(c, byName(b))
	if err != api.OK || run.Cut || len(run.Answers[0]) != 1 || len(run.Answers[1]) != len(others) {
		t.Fatalf("broken off behind %d lines: %+v, %v", at, run, err)
	}
	return run.Answers[0][0]
}

// own: an answer in so many lines.
func own(lines int, a api.Answer) api.Answer {
	a.Own = lines
	return a
}

// wantBroken breaks a call of two lines off ahead of it and in its midst; table is what is there then.
func wantBroken(t *testing.T, promise string, start []api.Pair, call api.Call, others []api.Call, ahead, within api.Answer, table ...api.Pair) {
	t.Helper()
	for at, want := range []api.Answer{ahead, within} {
		b := newBoard(t, start...)
		if a := broken(t, b, call, at, others...); !sameAnswer(a, want) || a.Own != want.Own {
			t.Errorf("%s: broken off behind %d lines: %+v, want %+v", promise, at, a, want)
		}
		wantBoard(t, promise, b, table...)
	}
}

// Nobody published: what only reads, fails, or is the same already.
func idleCalls() []api.Call {
	return []api.Call{
		get(1), get(9), all(), count(), put(1, 1), add(1, 5), swap(1, 1, 1), swap(1, 5, 6), swap(9, 1, 1), drop(9),
		get(-1), put(-1, 1), add(-1, 1), swap(-1, 1, 2), drop(-1), {Kind: 8},
	}
}

func TestPutGoesRound(t *testing.T) {
	ok, no := api.Answer{Ok: true}, api.Answer{}
	one := []api.Pair{is(1, 1)}
	wantBroken(t, "P9.5: Put, by a Put", one, put(2, 2), []api.Call{put(3, 3)}, own(2, ok), own(4, ok), is(1, 1), is(2, 2), is(3, 3))
	wantBroken(t, "P9.5: Put, by an Add", one, put(2, 2), []api.Call{add(3, 3)}, own(2, ok), own(4, ok), is(1, 1), is(2, 2), is(3, 3))
	wantBroken(t, "P9.5: Put, by a Swap", one, put(2, 2), []api.Call{swap(1, 1, 3)}, own(2, ok), own(4, ok), is(1, 3), is(2, 2))
	wantBroken(t, "P9.5: Put, by a Drop", one, put(2, 2), []api.Call{drop(1)}, own(2, ok), own(4, ok), is(2, 2))
	wantBroken(t, "P9.5: Put, by one of the same", one, put(2, 2), []api.Call{put(2, 2)}, own(1, no), own(3, no), is(1, 1), is(2, 2))
	wantBroken(t, "P9.5: Put, by one of the same name", one, put(2, 2), []api.Call{put(2, 7)}, own(2, ok), own(4, ok), is(1, 1), is(2, 2))
	wantBroken(t, "P9.5: Put, the same pairs are there again", one, put(2, 2), []api.Call{put(3, 3), drop(3)}, own(2, ok), own(4, ok), is(1, 1), is(2, 2))
	wantBroken(t, "P9.5: Put, the same value is there again", one, put(1, 2), []api.Call{put(1, 5), put(1, 1)}, own(2, ok), own(4, ok), is(1, 2))
	wantBroken(t, "P9.5: Put, the same name is there again", one, put(1, 2), []api.Call{drop(1), add(1, 1)}, own(2, ok), own(4, ok), is(1, 2))
	wantBroken(t, "P9.5: Put on nothing, nothing is there again", nil, put(1, 2), []api.Call{add(1, 1), drop(1)}, own(2, ok), own(4, ok), is(1, 2))
	wantBroken(t, "P9.5: Put, the name is gone", one, put(1, 2), []api.Call{drop(1)}, own(2, ok), own(4, ok), is(1, 2))
	wantBroken(t, "P9.5: Put, nobody published", one, put(1, 2), idleCalls(), own(2, ok), own(2, ok), is(1, 2))
	wantBroken(t, "P9.5: Put, the board is full by then", full(63), put(3, 3), []api.Call{add(maxKey, 1)}, own(1, api.Answer{Err: api.ErrBoardFull}), own(3, api.Answer{Err: api.ErrBoardFull}), append(full(63), is(maxKey, 1))...)
	wantBroken(t, "P9.5: Put of its name on a board that is full by then", full(63), put(0, 3), []api.Call{add(maxKey, 1)}, own(2, ok), own(4, ok), append([]api.Pair{is(0, 3)}, append(full(63)[1:], is(maxKey, 1))...)...)
}

func TestAddGoesRound(t *testing.T) {
	ok, no, tooMany := api.Answer{Ok: true}, api.Answer{}, api.Answer{Err: api.ErrBoardFull}
	one := []api.Pair{is(1, 1)}
	wantBroken(t, "P9.5: Add, by a Put", one, add(2, 2), []api.Call{put(3, 3)}, own(2, ok), own(4, ok), is(1, 1), is(2, 2), is(3, 3))
	wantBroken(t, "P9.5: Add, by an Add", nil, add(2, 2), []api.Call{add(3, 3)}, own(2, ok), own(4, ok), is(2, 2), is(3, 3))
	wantBroken(t, "P9.5: Add, by a Swap", one, add(2, 2), []api.Call{swap(1, 1, 3)}, own(2, ok), own(4, ok), is(1, 3), is(2, 2))
	wantBroken(t, "P9.5: Add, by a Drop", one, add(2, 2), []api.Call{drop(1)}, own(2, ok), own(4, ok), is(2, 2))
	wantBroken(t, "P9.5: Add, by one of the same name", one, add(2, 2), []api.Call{add(2, 7)}, own(1, no), own(3, no), is(1, 1), is(2, 7))
	wantBroken(t, "P9.5: Add, the same pairs are there again", one, add(2, 2), []api.Call{add(2, 7), drop(2)}, own(2, ok), own(4, ok), is(1, 1), is(2, 2))
	wantBroken(t, "P9.5: Add on nothing, nothing is there again", nil, add(1, 2), []api.Call{add(1, 1), drop(1)}, own(2, ok), own(4, ok), is(1, 2))
	wantBroken(t, "P9.5: Add, nobody published", one, add(2, 2), idleCalls(), own(2, ok), own(2, ok), is(1, 1), is(2, 2))
	wantBroken(t, "P9.5: Add, the board is full by then", full(63), add(3, 3), []api.Call{put(maxKey, 1)}, own(1, tooMany), own(3, tooMany), append(full(63), is(maxKey, 1))...)
	wantBroken(t, "P9.5: Add, another one is gone", full(63), add(maxKey, 1), []api.Call{drop(124)}, own(2, ok), own(4, ok), append(full(62), is(maxKey, 1))...)
}

func TestSwapGoesRound(t *testing.T) {
	ok, no, none := api.Answer{Ok: true}, api.Answer{}, api.Answer{Err: api.ErrBoardNone}
	one := []api.Pair{is(1, 1)}
	wantBroken(t, "P9.5: Swap, by a Put", one, swap(1, 1, 2), []api.Call{put(3, 3)}, own(2, ok), own(4, ok), is(1, 2), is(3, 3))
	wantBroken(t, "P9.5: Swap, by an Add", one, swap(1, 1, 2), []api.Call{add(3, 3)}, own(2, ok), own(4, ok), is(1, 2), is(3, 3))
	wantBroken(t, "P9.5: Swap, by a Swap", one, swap(1, 1, 2), []api.Call{swap(1, 1, 3)}, own(1, no), own(3, no), is(1, 3))
	wantBroken(t, "P9.5: Swap, by the same Swap", one, swap(1, 1, 2), []api.Call{swap(1, 1, 2)}, own(1, no), own(3, no), is(1, 2))
	wantBroken(t, "P9.5: Swap, by a Drop", one, swap(1, 1, 2), []api.Call{drop(1)}, own(1, none), own(3, none))
	wantBroken(t, "P9.5: Swap, the same pairs are there again", one, swap(1, 1, 2), []api.Call{swap(1, 1, 3), swap(1, 3, 1)}, own(2, ok), own(4, ok), is(1, 2))
	wantBroken(t, "P9.5: Swap, the same name is there again", one, swap(1, 1, 2), []api.Call{drop(1), put(1, 1)}, own(2, ok), own(4, ok), is(1, 2))
	wantBroken(t, "P9.5: Swap, nobody published", one, swap(1, 1, 2), idleCalls(), own(2, ok), own(2, ok), is(1, 2))
}

func TestDropGoesRound(t *testing.T) {
	it, none := api.Answer{N: 1}, api.Answer{Err: api.ErrBoardNone}
	one := []api.Pair{is(1, 1)}
	wantBroken(t, "P9.5: Drop, by a Put", one, drop(1), []api.Call{put(3, 3)}, own(2, it), own(4, it), is(3, 3))
	wantBroken(t, "P9.5: Drop, by an Add", one, drop(1), []api.Call{add(3, 3)}, own(2, it), own(4, it), is(3, 3))
	wantBroken(t, "P9.5: Drop, by a Put of its name", one, drop(1), []api.Call{put(1, 3)}, own(2, api.Answer{N: 3}), own(4, api.Answer{N: 3}))
	wantBroken(t, "P9.5: Drop, by a Swap of its name", one, drop(1), []api.Call{swap(1, 1, 3)}, own(2, api.Answer{N: 3}), own(4, api.Answer{N: 3}))
	wantBroken(t, "P9.5: Drop, by a Drop", one, drop(1), []api.Call{drop(1)}, own(1, none), own(3, none))
	wantBroken(t, "P9.5: Drop, by a Drop of another one", []api.Pair{is(1, 1), is(2, 2)}, drop(1), []api.Call{drop(2)}, own(2, it), own(4, it))
	wantBroken(t, "P9.5: Drop, the same pairs are there again", one, drop(1), []api.Call{put(1, 5), put(1, 1)}, own(2, it), own(4, it))
	wantBroken(t, "P9.5: Drop, the same name is there again", one, drop(1), []api.Call{drop(1), add(1, 1)}, own(2, it), own(4, it))
	wantBroken(t, "P9.5: Drop, nobody published", one, drop(1), idleCalls(), own(2, it), own(2, it))
}

// Somebody publishes ahead of each compare-and-swap: it goes round as often, and no oftener.
func TestGoesRoundAsOften(t *testing.T) {
	for _, call := range []api.Call{put(9, 9), add(9, 9), swap(1, 1, 2), drop(1)} {
		for rounds := range 30 {
			c := work([]api.Call{call}, nil)
			for i := range rounds {
				c.Work[1] = append(c.Work[1], put(5, i))
				c.Turns = append(c.Turns, 0, 1, 1, 0)
			}
			run, _ := wantModel(t, "P9.5: round and round", []api.Pair{is(1, 1)}, c)
			if a := run.Answers[0][0]; a.Own != 2*rounds+2 || a.Err != api.OK {
				t.Errorf("P9.5: %+v, %d others: %+v", call, rounds, a)
			}
		}
	}
}

// Calls by their names, by the workers of a run, do the same lines as Play's.
func TestByNameAgainstModel(t *testing.T) {
	mixedPlays(3000, true, func(x mixed) {
		b := newBoard(t, x.start...)
		got, _ := crew.Run(x.c, byName(b))
		want, table := newModel(x.start).play(x.c)
		if !sameRun(got, want) || !slices.Equal(b.All(nil), table) {
			t.Fatalf("P9.2: %+v\ngot  %+v %v\nwant %+v %v", x, got, b.All(nil), want, table)
		}
	})
}

// writeOver writes into a list and all the spare room behind it.
func writeOver(list []api.Pair) {
	list = list[:cap(list)]
	for i := range list {
		list[i] = is(-99, -99)
	}
}

// What a list that was answered is used for changes neither the board nor another list.
func TestListsAreTheirOwnersOwn(t *testing.T) {
	for _, n := range []int{0, 1, 2, 5, 63, 64} {
		b := newBoard(t, full(n)...)
		lists := [][]api.Pair{b.All(nil), b.All(nil), b.All(nil)}
		for i, list := range lists {
			for _, other := range lists[i:] {
				if !slices.Equal(other, full(n)) {
					t.Fatalf("rule 3: a list of %d is %v", n, other)
				}
			}
			writeOver(list)
			_ = append(list, is(-98, -98))
			wantBoard(t, "rule 3: behind a list that was written over", b, full(n)...)
		}
	}
}

// What is told of a board, with the spare room behind it, stays as it is while others are published; and what is published doesn't hang on it.
func TestToldTablesStay(t *testing.T) {
	b, m := newBoard(t, full(60)...), newModel(full(60))
	r := mixer(4)
	var told, were [][]api.Pair
	for range 500 {
		c := r.call([]int{0, 1, 2, 3, 60, 118, 119, 120, maxKey}, false)
		list := b.All(nil)
		told, were = append(told, list), append(were, m.table())
		byName(b)(nil, c)
		m.alone(c)
	}
	for i := range told {
		if !slices.Equal(told[i], were[i]) {
			t.Fatalf("P9.6: table %d is %v, was %v", i, told[i], were[i])
		}
		writeOver(told[i])
	}
	wantBoard(t, "P9.6: behind tables that were written over", b, m.table()...)
}

// roomy copies a list into one with spare room, in which something stands.
func roomy(list []api.Pair) []api.Pair {
	room := append(slices.Clone(list), is(71, 71), is(72, 72), is(73, 73))
	return room[:len(list)]
}

// untouched tells whether a roomy list is as it was.
func untouched(list, was []api.Pair) bool {
	return slices.Equal(list, was) && slices.Equal(list[:len(list)+3][len(list):], []api.Pair{is(71, 71), is(72, 72), is(73, 73)})
}

func TestNewKeepsToItsOwnMemory(t *testing.T) {
	for _, was := range [][]api.Pair{nil, {is(5, 1)}, {is(5, 1), is(3, 2), is(5, 9)}, full(64), full(65), {is(-1, 1)}} {
		start := roomy(was)
		b, err := board.New(start)
		if !untouched(start, was) {
			t.Fatalf("rule 3: New changed what was handed in: %v, was %v", start, was)
		}
		writeOver(start)
		if err != api.OK {
			continue
		}
		m := newModel(was)
		wantBoard(t, "rule 3: behind a start that was written over", b, m.table()...)
		start = roomy(was)
		b, _ = board.New(start)
		for _, c := range []api.Call{put(5, 7), drop(3), add(4, 4), swap(5, 7, 8), drop(5)} {
			byName(b)(nil, c)
		}
		if !untouched(start, was) {
			t.Fatalf("rule 3: a call changed the start: %v, was %v", start, was)
		}
	}
}

// Two boards of one start don't touch one another.
func TestBoardsDoNotTouch(t *testing.T) {
	start := []api.Pair{is(1, 1), is(2, 2)}
	a, b := newBoard(t, start...), newBoard(t, start...)
	a.Put(nil, 1, 5)
	a.Drop(nil, 2)
	wantBoard(t, "rule 6", b, start...)
	b.Add(nil, 3, 3)
	wantBoard(t, "rule 6", a, is(1, 5))
	wantBoard(t, "rule 6", b, is(1, 1), is(2, 2), is(3, 3))
}
