package pile_test

import (
	"slices"
	"testing"

	"skein/api"
	"skein/crew"
	"skein/pile"
	"skein/word"
)

func TestExampleOfAStack(t *testing.T) {
	p := newPile(t, 3, 0)
	a, _ := p.Pop(nil)
	b, _ := p.Pop(nil)
	err := p.Push(nil, 1)
	head, _ := word.Pack(1, 3)
	if a != 1 || b != 2 || err != api.OK || !slices.Equal(p.Places(), []int{1, 3}) || p.Head() != head {
		t.Errorf("P8.2: the chapter's example: %d, %d, %v, %v, %d", a, b, err, p.Places(), p.Head())
	}
}

// The head's index came back, its tag didn't: without it the head would be laid to 2, which is out.
func TestExampleOfATag(t *testing.T) {
	c := work([]api.Call{pop()}, []api.Call{pop(), pop(), push(1)})
	c.Turns = []int{0, 0, 1, 1, 1, 1, 1, 1, 1, 1, 1}
	wantPlay(t, "P8.3: the chapter's example", 3, 0, c, api.Run{Steps: 15, Answers: [][]api.Answer{
		{{Begin: 1, End: 15, Own: 6, N: 1}},
		{{Begin: 3, End: 5, Own: 3, N: 1}, {Begin: 6, End: 8, Own: 3, N: 2}, {Begin: 9, End: 11, Own: 3}},
	}}, []int{3}, top{3, 4}.word())
}

func TestNew(t *testing.T) {
	for _, n := range []int{1, 2, 3, 63, 64, 65, 127, 128, 129, 4095, 4096} {
		for _, tag := range []int{0, 1, 2, 1 << 39, maxTag - 1, maxTag} {
			p := newPile(t, n, tag)
			wantPile(t, "P8.1", p, upTo(n), top{1, tag})
			for i := range n {
				if got, err := p.Pop(nil); got != i+1 || err != api.OK {
					t.Fatalf("P8.1: New(%d, %d): Pop %d: %d, %v", n, tag, i+1, got, err)
				}
			}
			wantPile(t, "P8.1: none left", p, nil, top{0, (tag + n) % (1 << 40)})
		}
	}
}

var (
	noSizes = []int{lowest, lowest + 1, -1 << 32, -4096, -1, 0, 4097, 4098, 8192, 1<<20 - 1, 1 << 20, 1 << 32, 1<<32 + 1, highest - 1, highest}
	noTags  = []int{lowest, lowest + 1, -1 << 40, -maxTag, -2, -1, 1 << 40, 1<<40 + 1, 1 << 41, 1 << 60, 1<<60 + 1, highest - 1, highest}
)

func TestNewRefuses(t *testing.T) {
	want := func(n, tag int) {
		t.Helper()
		if p, err := pile.New(n, tag); p != nil || err != api.ErrPileMany {
			t.Errorf("P8.1: New(%d, %d): %v, %v", n, tag, p, err)
		}
	}
	for _, n := range noSizes {
		for _, tag := range append([]int{0, 1, maxTag}, noTags...) {
			want(n, tag)
		}
	}
	for _, tag := range noTags {
		for _, n := range []int{1, 2, 4096} {
			want(n, tag)
		}
	}
}

// Behind the greatest tag comes 0, with a Pop and with a Push.
func TestTagGoesOn(t *testing.T) {
	p := newPile(t, 2, maxTag-1)
	p.Pop(nil)
	wantPile(t, "P8.6", p, []int{2}, top{2, maxTag})
	p.Pop(nil)
	wantPile(t, "P8.6: behind the greatest, by a Pop", p, nil, top{0, 0})
	p.Push(nil, 1)
	wantPile(t, "P8.6", p, []int{1}, top{1, 1})

	p = newPile(t, 2, maxTag-1)
	p.Pop(nil)
	p.Push(nil, 1)
	wantPile(t, "P8.6: behind the greatest, by a Push", p, []int{1, 2}, top{1, 0})
	p.Pop(nil)
	wantPile(t, "P8.6", p, []int{2}, top{2, 1})
}

// noPlaces: what is no place of a pile of n.
func noPlaces(n int) []int {
	return []int{lowest, lowest + 1, -1<<40 + 1, -1 << 32, -4096, -n, -1, 0, n + 1, n + 2, 4097, 8192, 1 << 20, 1 << 32, 1<<32 + 1, 1<<40 + 1, highest - 1, highest}
}

func TestPushOfNoPlace(t *testing.T) {
	for _, n := range []int{1, 2, 3, 64, 4095, 4096} {
		p := newPile(t, n, 5)
		for _, i := range noPlaces(n) {
			if err := p.Push(nil, i); err != api.ErrPilePlace {
				t.Errorf("P8.2: a pile of %d: Push(%d): %v", n, i, err)
			}
		}
		wantPile(t, "P8.2: behind a refused Push", p, upTo(n), top{1, 5})
	}
}

func TestEveryPlaceIsPushed(t *testing.T) {
	for _, n := range []int{1, 2, 64, 65, 4096} {
		p := newPile(t, n, 0)
		for range n {
			p.Pop(nil)
		}
		for i := range n {
			if err := p.Push(nil, i+1); err != api.OK {
				t.Fatalf("P8.2: a pile of %d: Push(%d): %v", n, i+1, err)
			}
		}
		want := upTo(n)
		slices.Reverse(want)
		wantPile(t, "P8.6: what was pushed last is the first", p, want, top{n, 2 * n})
	}
}

func TestPopOfNothing(t *testing.T) {
	p := newPile(t, 1, 3)
	p.Pop(nil)
	for range 3 {
		if i, err := p.Pop(nil); i != 0 || err != api.ErrPileEmpty {
			t.Fatalf("P8.2: Pop of an empty pile: %d, %v", i, err)
		}
		wantPile(t, "P8.2: a Pop that failed changes nothing", p, nil, top{0, 4})
	}
	p.Push(nil, 1)
	if i, err := p.Pop(nil); i != 1 || err != api.OK {
		t.Errorf("P8.2: Pop of a pile that isn't empty any more: %d, %v", i, err)
	}
}

// Alone a pile is a stack; what isn't there is pushed in any order.
func TestAloneIsAStack(t *testing.T) {
	m := mixer(8)
	for _, n := range []int{1, 2, 3, 7, 64, 100, 4096} {
		for _, tag := range []int{0, maxTag - 20} {
			p := newPile(t, n, tag)
			stack, out, changes := upTo(n), []int(nil), 0
			for range 300 {
				if m.below(2) == 0 && len(out) > 0 {
					k := m.below(len(out))
					if err := p.Push(nil, out[k]); err != api.OK {
						t.Fatalf("P8.6: Push(%d): %v", out[k], err)
					}
					stack = append([]int{out[k]}, stack...)
					out = slices.Delete(out, k, k+1)
					changes++
				} else if i, err := p.Pop(nil); len(stack) == 0 {
					if i != 0 || err != api.ErrPileEmpty {
						t.Fatalf("P8.6: Pop: %d, %v", i, err)
					}
				} else {
					if i != stack[0] || err != api.OK {
						t.Fatalf("P8.6: Pop: %d, %v, want %d", i, err, stack[0])
					}
					stack, out = stack[1:], append(out, i)
					changes++
				}
				head := top{0, (tag + changes) % (1 << 40)}
				if len(stack) > 0 {
					head.place = stack[0]
				}
				wantPile(t, "P8.6", p, stack, head)
			}
		}
	}
}

// Alone, spoilt or not, a pile does its lines.
func TestAloneAgainstModel(t *testing.T) {
	r := mixer(9)
	for _, n := range []int{1, 2, 3, 5, 64, 200} {
		for range 40 {
			p, m := newPile(t, n, maxTag-9), newModel(n, maxTag-9)
			for range 40 {
				c := r.call(min(n, 7), true)
				if c.Kind == 3 {
					c.Kind = 1
				}
				if got, want := byName(p)(nil, c), m.alone(c); !sameAnswer(got, want) {
					t.Fatalf("P8.2: a pile of %d: %+v: %+v, want %+v", n, c, got, want)
				}
				wantPile(t, "P8.2", p, m.places(), m.head)
			}
		}
	}
}

// moment: how a pile is behind a line.
type moment struct {
	head   top
	places []int
}

// wantLines does a call by its name and looks at the pile behind each of its lines.
func wantLines(t *testing.T, promise string, p *pile.Pile, call api.Call, want api.Answer, moments ...moment) {
	t.Helper()
	var seen []moment
	do := byName(p)
	spy := does(func(w *crew.Worker, c api.Call) api.Answer {
		if w.Number() == 0 {
			return do(w, c)
		}
		h := p.Head()
		seen = append(seen, moment{top{word.Index(h), word.Tag(h)}, p.Places()})
		return api.Answer{}
	})
	c := work([]api.Call{call}, make([]api.Call, len(moments)))
	for range moments {
		c.Turns = append(c.Turns, 0, 1)
	}
	run, err := crew.Run(c, spy)
	if err != api.OK || len(run.Answers[0]) != 1 || run.Steps != 2*len(moments) {
		t.Fatalf("%s: %+v: %+v, %v", promise, call, run, err)
	}
	if a := run.Answers[0][0]; !sameAnswer(a, want) || a.Own != len(moments) {
		t.Errorf("%s: %+v: %+v, want %+v in %d lines", promise, call, a, want, len(moments))
	}
	for i, m := range moments {
		if seen[i].head != m.head || !slices.Equal(seen[i].places, m.places) {
			t.Errorf("%s: %+v: behind line %d: %v, want %v", promise, call, i+1, seen[i], m)
		}
	}
}

func TestLinesThatChange(t *testing.T) {
	p := newPile(t, 3, 7)
	was := moment{top{1, 7}, []int{1, 2, 3}}
	is := moment{top{2, 8}, []int{2, 3}}
	wantLines(t, "P8.2: Pop", p, pop(), api.Answer{N: 1}, was, was, is)
	was, is = is, moment{top{3, 9}, []int{3}}
	wantLines(t, "P8.2: Pop", p, pop(), api.Answer{N: 2}, was, was, is)
	was, is = is, moment{top{1, 10}, []int{1, 3}}
	wantLines(t, "P8.2: Push", p, push(1), api.Answer{}, was, was, is)
	was, is = is, moment{top{2, 11}, []int{2, 1, 3}}
	wantLines(t, "P8.2: Push", p, push(2), api.Answer{}, was, was, is)
	for _, i := range noPlaces(3) {
		wantLines(t, "P8.2: a Push that is refused", p, push(i), api.Answer{Err: api.ErrPilePlace}, is)
	}
	wantLines(t, "P8.7: Look", p, look(), api.Answer{Ints: []int{2, 1, 3}}, is, is, is, is, is)
}

func TestLinesOfAnEmptyPile(t *testing.T) {
	p := newPile(t, 1, maxTag)
	p.Pop(nil)
	none := moment{head: top{0, 0}}
	wantLines(t, "P8.2: Pop of nothing", p, pop(), api.Answer{Err: api.ErrPileEmpty}, none)
	wantLines(t, "P8.7: Look of nothing", p, look(), api.Answer{}, none, none)
	wantLines(t, "P8.2: Push on nothing", p, push(1), api.Answer{}, none, none, moment{top{1, 1}, []int{1}})
}

// Look has a line for each place and two more.
func TestLinesOfLook(t *testing.T) {
	for _, n := range []int{1, 2, 3, 64, 65, 4095, 4096} {
		p := newPile(t, n, 0)
		for left := n; left >= max(0, n-3); left-- {
			run, err := crew.Run(work([]api.Call{look()}), byName(p))
			if a := run.Answers[0][0]; err != api.OK || a.Own != left+2 || !slices.Equal(a.Ints, upTo(n)[n-left:]) {
				t.Errorf("P8.7: Look at %d places: %d lines, %v", left, a.Own, a.Ints)
			}
			p.Pop(nil)
		}
	}
}

// Calls that a greater one is made of do their own lines each, those that are refused too.
func TestLinesAddUp(t *testing.T) {
	p := newPile(t, 2, 0)
	do := byName(p)
	for _, x := range []struct {
		calls []api.Call
		lines int
	}{
		{[]api.Call{push(0), push(3), push(-1)}, 3},
		{[]api.Call{pop(), push(0), look()}, 3 + 1 + 3},
		{[]api.Call{pop(), pop(), look(), pop()}, 3 + 1 + 2 + 1},
		{[]api.Call{push(2), push(1), look()}, 3 + 3 + 4},
	} {
		run, err := crew.Run(work([]api.Call{{}}), does(func(w *crew.Worker, _ api.Call) api.Answer {
			for _, c := range x.calls {
				do(w, c)
			}
			return api.Answer{}
		}))
		if err != api.OK || run.Steps != x.lines {
			t.Errorf("P8.2: %v in one call: %d lines, want %d", x.calls, run.Steps, x.lines)
		}
	}
}

// A Push's second line is seen where its place is there already: the pile is spoilt from that line on.
func TestLinesThatSpoil(t *testing.T) {
	was := moment{top{1, 0}, []int{1, 2, 3}}
	for _, x := range []struct {
		place         int
		second, third moment
	}{
		{1, moment{top{1, 0}, []int{1}}, moment{top{1, 1}, []int{1}}},
		{2, moment{top{1, 0}, []int{1, 2}}, moment{top{2, 1}, []int{2, 1}}},
		{3, moment{top{1, 0}, []int{1, 2, 3}}, moment{top{3, 1}, []int{3, 1, 2}}},
	} {
		wantLines(t, "P8.2: Push of what is there", newPile(t, 3, 0), push(x.place), api.Answer{}, was, x.second, x.third)
	}
}

// A ring of one, of two, of all, and one that a way leads to: Pop goes round in it, Look and Places end.
func TestSpoiltPile(t *testing.T) {
	pops := func(promise string, p *pile.Pile, want ...int) {
		t.Helper()
		for k, i := range want {
			if got, err := p.Pop(nil); got != i || err != api.OK {
				t.Fatalf("%s: Pop %d: %d, %v, want %d", promise, k+1, got, err, i)
			}
		}
	}
	p := newPile(t, 3, 0)
	p.Push(nil, 1)
	wantPile(t, "P8.1: a ring of one", p, []int{1}, top{1, 1})
	at := moment{top{1, 1}, []int{1}}
	wantLines(t, "P8.7: a ring of one", p, look(), api.Answer{Ints: []int{1}}, at, at, at)
	pops("P8.2: a ring of one", p, 1, 1, 1, 1)
	wantPile(t, "P8.1: a ring of one", p, []int{1}, top{1, 5})

	p = newPile(t, 3, 0)
	p.Push(nil, 2)
	wantPile(t, "P8.1: a ring of two", p, []int{2, 1}, top{2, 1})
	pops("P8.2: a ring of two", p, 2, 1, 2, 1, 2)
	wantPile(t, "P8.1: a ring of two", p, []int{1, 2}, top{1, 6})
	p.Push(nil, 3)
	wantPile(t, "P8.1: a way to a ring", p, []int{3, 1, 2}, top{3, 7})
	at = moment{top{3, 7}, []int{3, 1, 2}}
	wantLines(t, "P8.7: a way to a ring", p, look(), api.Answer{Ints: []int{3, 1, 2}}, at, at, at, at, at)
	pops("P8.2: a way to a ring", p, 3, 1, 2, 1, 2)

	p = newPile(t, 4096, 0)
	p.Push(nil, 4096)
	want := append([]int{4096}, upTo(4095)...)
	wantPile(t, "P8.1: a ring of all", p, want, top{4096, 1})
	pops("P8.2: a ring of all", p, append(want, want[:5]...)...)
	wantPile(t, "P8.1: a ring of all", p, append(want[5:], want[:5]...), top{5, 4102})

	p = newPile(t, 3, 0)
	pops("P8.2", p, 1, 2)
	p.Push(nil, 1)
	p.Push(nil, 2)
	p.Push(nil, 1)
	pops("P8.2: pushed twice", p, 1, 2, 1, 2)
	p.Push(nil, 3)
	wantPile(t, "P8.1: cut off by a ring", p, []int{3, 1, 2}, top{3, 10})
}

// broken does a call of worker 0, broken off behind so many lines by all the others, which are worker 1's.
func broken(t *testing.T, p *pile.Pile, call api.Call, at int, others ...api.Call) api.Answer {
	t.Helper()
	c := work([]api.Call{call}, others)
	c.Turns = append(make([]int, at), slices.Repeat([]int{1}, 300)...)
	run, err := crew.Run(c, byName(p))
	if err != api.OK || run.Cut || len(run.Answers[0]) != 1 || len(run.Answers[1]) != len(others) {
		t.Fatalf("broken off behind %d lines: %+v, %v", at, run, err)
	}
	return run.Answers[0][0]
}

// wantBroken breaks a call off at each of its lines; outside them it does its own number, within them one more round.
func wantBroken(t *testing.T, promise string, n, pops int, call api.Call, others []api.Call, ahead, within, behind api.Answer, places []int) {
	t.Helper()
	for at := range behind.Own + 1 {
		p := newPile(t, n, 0)
		for range pops {
			p.Pop(nil)
		}
		want := within
		switch at {
		case 0:
			want = ahead
		case behind.Own:
			want = behind
		}
		if a := broken(t, p, call, at, others...); !sameAnswer(a, want) || a.Own != want.Own {
			t.Errorf("%s: broken off behind %d lines: %+v, want %+v", promise, at, a, want)
		}
		if at < behind.Own && !slices.Equal(p.Places(), places) {
			t.Errorf("%s: broken off behind %d lines: Places %v, want %v", promise, at, p.Places(), places)
		}
	}
}

func TestPopGoesRound(t *testing.T) {
	one, six := api.Answer{N: 1, Own: 3}, api.Answer{N: 1, Own: 6}
	wantBroken(t, "P8.2: Pop, by a Pop", 3, 0, pop(), []api.Call{pop()}, api.Answer{N: 2, Own: 3}, api.Answer{N: 2, Own: 6}, one, []int{3})
	wantBroken(t, "P8.2: Pop, by a Push", 3, 1, pop(), []api.Call{push(1)}, one, six, api.Answer{N: 2, Own: 3}, []int{2, 3})
	wantBroken(t, "P8.2: Pop, the head's index came back", 3, 0, pop(), []api.Call{pop(), push(1)}, one, six, one, []int{2, 3})
	wantBroken(t, "P8.2: Pop, another one is below", 3, 0, pop(), []api.Call{pop(), pop(), push(1)}, one, six, one, []int{3})
	wantBroken(t, "P8.2: Pop, the same is below", 3, 0, pop(), []api.Call{pop(), pop(), push(2), push(1)}, one, six, one, []int{2, 3})
	wantBroken(t, "P8.2: Pop, nothing is left", 2, 0, pop(), []api.Call{pop(), pop()}, api.Answer{Err: api.ErrPileEmpty, Own: 1}, api.Answer{Err: api.ErrPileEmpty, Own: 4}, one, nil)
	nobody := []api.Call{look(), push(0), push(4), {Kind: 9}}
	wantBroken(t, "P8.2: Pop, nobody changed the head", 3, 0, pop(), nobody, one, one, one, []int{2, 3})
}

func TestPushGoesRound(t *testing.T) {
	three, six := api.Answer{Own: 3}, api.Answer{Own: 6}
	wantBroken(t, "P8.2: Push, by a Pop", 3, 1, push(1), []api.Call{pop()}, three, six, three, []int{1, 3})
	wantBroken(t, "P8.2: Push, by a Push", 4, 2, push(1), []api.Call{push(2)}, three, six, three, []int{1, 2, 3, 4})
	wantBroken(t, "P8.2: Push, the head's index came back", 3, 1, push(1), []api.Call{pop(), push(2)}, three, six, three, []int{1, 2, 3})
	wantBroken(t, "P8.2: Push, nothing is left", 2, 1, push(1), []api.Call{pop()}, three, six, three, []int{1})
	wantBroken(t, "P8.2: Push on nothing, none came", 1, 1, push(1), []api.Call{pop(), look()}, three, three, three, []int{1})
	wantBroken(t, "P8.2: Push, nobody changed the head", 3, 1, push(1), []api.Call{look(), push(-1)}, three, three, three, []int{1, 2, 3})
	refused := api.Answer{Err: api.ErrPilePlace, Own: 1}
	wantBroken(t, "P8.2: a Push that is refused", 3, 0, push(4), []api.Call{pop()}, refused, refused, refused, []int{2, 3})
}

func TestLookGoesRound(t *testing.T) {
	all := api.Answer{Ints: []int{1, 2, 3}, Own: 5}
	wantBroken(t, "P8.7: Look, by a Pop", 3, 0, look(), []api.Call{pop()}, api.Answer{Ints: []int{2, 3}, Own: 4}, api.Answer{Ints: []int{2, 3}, Own: 9}, all, []int{2, 3})
	wantBroken(t, "P8.7: Look, the head's index came back", 3, 0, look(), []api.Call{pop(), push(1)}, all, api.Answer{Ints: []int{1, 2, 3}, Own: 10}, all, []int{1, 2, 3})
	wantBroken(t, "P8.7: Look, by a Push", 4, 1, look(), []api.Call{push(1)}, api.Answer{Ints: upTo(4), Own: 6}, api.Answer{Ints: upTo(4), Own: 11}, api.Answer{Ints: []int{2, 3, 4}, Own: 5}, upTo(4))
	wantBroken(t, "P8.7: Look, nobody changed the head", 3, 0, look(), []api.Call{look(), push(0)}, all, all, all, []int{1, 2, 3})
	wantBroken(t, "P8.7: Look at nothing", 1, 1, look(), []api.Call{push(1)}, api.Answer{Ints: []int{1}, Own: 3}, api.Answer{Ints: []int{1}, Own: 5}, api.Answer{Own: 2}, []int{1})
}

// A Look goes by what next is when it loads it; what it put down on a way that changed is forgotten.
func TestLookAtWhatChanges(t *testing.T) {
	// By how many of its lines are done: behind the second one it goes to 2 still, ahead of it from 1 to 3.
	for at, own := range []int{4, 4 + 4, 5 + 4, 5 + 4, 5 + 4} {
		a := broken(t, newPile(t, 3, 0), look(), at, pop(), pop(), push(1))
		if !slices.Equal(a.Ints, []int{1, 3}) || a.Own != own {
			t.Errorf("P8.7: broken off behind %d lines: %+v, want %d lines", at, a, own)
		}
	}
	// Behind two lines 1 is put down, and 2 is next, below which 1 is by then: that came already, so line 4 loads the head.
	a := broken(t, newPile(t, 3, 0), look(), 2, pop(), pop(), push(1), push(2))
	if !slices.Equal(a.Ints, []int{2, 1, 3}) || a.Own != 4+5 {
		t.Errorf("P8.7: a place that came already while it looked: %+v", a)
	}
}

// Which line loads what: another one's Push is halted behind the line that spoils the pile, so the head stays.
func TestLineAtWhichNextIsLoaded(t *testing.T) {
	for at, want := range []moment{{top{1, 1}, []int{1}}, {top{1, 1}, []int{1}}, {top{2, 1}, []int{2, 3}}} {
		c := work([]api.Call{pop()}, []api.Call{push(1)})
		c.Turns = append(make([]int, at), 1, 1)
		c.Halt = []int{0, 2}
		run, places, head, err := pile.Play(3, 0, c)
		if err != api.OK || len(run.Answers[0]) != 1 {
			t.Fatalf("P8.2: %+v, %v", run, err)
		}
		if a := run.Answers[0][0]; a.N != 1 || a.Own != 3 || !slices.Equal(places, want.places) || head != want.head.word() {
			t.Errorf("P8.2: next is changed behind %d lines of a Pop: %+v, %v, %d, want %v", at, a, places, head, want)
		}
	}
}

// A Push stores the index of the head that it loaded, though the head is another one by then.
func TestPushStoresWhatItLoaded(t *testing.T) {
	c := work([]api.Call{push(3)}, []api.Call{pop()})
	c.Turns = []int{0, 1, 1, 1, 0}
	c.Until = 5
	wantPlay(t, "P8.2: Push's second line", 3, 0, c, api.Run{
		Answers: [][]api.Answer{nil, {{Begin: 2, End: 4, Own: 3, N: 1}}}, Open: []api.Open{{Worker: 0, Begin: 1, Own: 2}}, Steps: 5, Cut: true,
	}, []int{2, 3, 1}, top{2, 1}.word())
	c.Until = 6
	wantPlay(t, "P8.2: Push's third line", 3, 0, c, api.Run{
		Answers: [][]api.Answer{nil, {{Begin: 2, End: 4, Own: 3, N: 1}}}, Open: []api.Open{{Worker: 0, Begin: 1, Own: 3}}, Steps: 6, Cut: true,
	}, []int{2, 3, 1}, top{2, 1}.word())
	c.Until = 0
	wantPlay(t, "P8.2: Push's second round", 3, 0, c, api.Run{
		Answers: [][]api.Answer{{{Begin: 1, End: 9, Own: 6}}, {{Begin: 2, End: 4, Own: 3, N: 1}}}, Steps: 9,
	}, []int{3, 2}, top{3, 2}.word())
}

// Calls by their names, by the workers of a run, do the same lines as Play's.
func TestByNameAgainstModel(t *testing.T) {
	mixedPlays(3000, true, func(x mixed) {
		for _, calls := range x.c.Work {
			for i := range calls {
				if calls[i].Kind == 3 {
					calls[i].Kind = 2
				}
			}
		}
		p, m := newPile(t, x.n, x.tag), newModel(x.n, x.tag)
		got, _ := crew.Run(x.c, byName(p))
		want, places, head := m.play(x.c)
		if !sameRun(got, want) || !slices.Equal(p.Places(), places) || p.Head() != head {
			t.Fatalf("P8.2: %+v\ngot  %+v %v %d\nwant %+v %v %d", x, got, p.Places(), p.Head(), want, places, head)
		}
	})
}

// writeOver writes into a list and all the spare room behind it.
func writeOver(list []int) {
	list = list[:cap(list)]
	for i := range list {
		list[i] = -99
	}
}

// What a list that was answered is used for changes neither the pile nor another list.
func TestListsAreTheirOwnersOwn(t *testing.T) {
	for _, n := range []int{1, 2, 5, 100} {
		p := newPile(t, n, 0)
		a, b, c, d := p.Places(), p.Look(nil), p.Places(), p.Look(nil)
		for i, list := range [][]int{a, b, c, d} {
			for _, other := range [][]int{a, b, c, d}[i:] {
				if !slices.Equal(other, upTo(n)) {
					t.Fatalf("rule 3: a list of %d is %v", n, other)
				}
			}
			writeOver(list)
			wantPile(t, "rule 3: behind a list that was written over", p, upTo(n), top{1, 0})
		}
	}
}

// Two piles don't touch one another.
func TestPilesDoNotTouch(t *testing.T) {
	p, q := newPile(t, 3, 0), newPile(t, 3, 0)
	p.Pop(nil)
	p.Push(nil, 3)
	wantPile(t, "rule 6", q, []int{1, 2, 3}, top{1, 0})
	q.Pop(nil)
	wantPile(t, "rule 6", p, []int{3, 2}, top{3, 2})
	wantPile(t, "rule 6", q, []int{2, 3}, top{2, 1})
}
