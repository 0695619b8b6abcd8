package pool_test

import (
	"fmt"
	"slices"
	"testing"

	"skein/api"
	"skein/crew"
	"skein/pool"
)

func TestExample(t *testing.T) {
	p := newPool(t, 2)
	h, err := p.Take(nil, api.Node{A: 1, B: 2, C: 3, D: 4}, 0)
	x, e := p.Read(nil, h)
	if h != word(1, 1) || err != api.OK || x != (api.Node{A: 1, B: 2, C: 3, D: 4}) || e != api.OK {
		t.Fatalf("P10.2: Take %d, %v; Read %v, %v", h, err, x, e)
	}
	if a, b := p.Give(nil, h), p.Give(nil, h); a != api.OK || b != api.ErrPoolGone {
		t.Errorf("P10.2: Give %v, again %v", a, b)
	}
	if x, err := p.Read(nil, h); x != (api.Node{}) || err != api.ErrPoolGone || p.Faults() != 1 {
		t.Errorf("P10.2: Read of what was given: %v, %v, %d faults", x, err, p.Faults())
	}
	wantPool(t, "P10.3: a slot that was given", p, state{[]api.Slot{given(2), {}}, []int{1, 2}, 1})
	if h, err := p.Take(nil, api.Node{}, 0); h != word(1, 3) || err != api.OK {
		t.Errorf("P10.2: Take %d, %v", h, err)
	}
	for _, h := range []int{5, word(3, 1), word(1, 2)} {
		if _, err := p.Read(nil, h); err != api.ErrPoolHandle {
			t.Errorf("P10.2: Read(%d): %v", h, err)
		}
	}
}

func TestNew(t *testing.T) {
	for _, n := range []int{1, 2, 3, 63, 64, 65, 4095, 4096} {
		p := newPool(t, n)
		wantPool(t, "P10.1", p, state{make([]api.Slot, n), upTo(n), 0})
		for i := 1; i <= n; i++ {
			if h, err := p.Take(nil, api.Node{A: i}, -i); h != word(i, 1) || err != api.OK {
				t.Fatalf("P10.1: a pool of %d: Take %d: %d, %v", n, i, h, err)
			}
		}
		if h, err := p.Take(nil, api.Node{A: 1}, 1); h != 0 || err != api.ErrPoolFull {
			t.Fatalf("P10.2: a pool of %d that is full: %d, %v", n, h, err)
		}
		full := make([]api.Slot, n)
		for i := range full {
			full[i] = used(1, i+1, 0, -i-1)
		}
		wantPool(t, "P10.2: full", p, state{full, nil, 0})
	}
}

func TestNewRefuses(t *testing.T) {
	for _, n := range noSizes {
		if p, err := pool.New(n); p != nil || err != api.ErrPoolMany {
			t.Errorf("P10.1: New(%d): %v, %v", n, p, err)
		}
	}
}

// ofHandle: the calls that are told a handle.
func ofHandle(h int) []api.Call {
	return []api.Call{give(h), read(h), mark(h), casMark(h, 0, 5), casMark(h, poison, 5), link(h), swapLink(h, 5)}
}

// wantErr does a call alone and asks for its error, and for nothing beside it.
func wantErr(t *testing.T, promise string, p *pool.Pool, c api.Call, want api.Errno) {
	t.Helper()
	if a := doByName(p, nil, c, c.A); !sameAnswer(a, api.Answer{Err: want}) {
		t.Errorf("%s: %+v: %+v, want %v", promise, c, a, want)
	}
}

// What is no handle is refused, whatever the slots are; nothing changes, and no fault is counted.
func TestNoHandles(t *testing.T) {
	for _, n := range []int{1, 2, 3, 4095, 4096} {
		p, m := newPool(t, n), newModel(n)
		for _, c := range []api.Call{take(1, 2, 3), give(word(1, 1)), take(4, 5, 6), take(7, 8, 9)} {
			for _, h := range noHandles(n) {
				for _, of := range ofHandle(h) {
					wantErr(t, fmt.Sprintf("P10.2: a pool of %d", n), p, of, api.ErrPoolHandle)
				}
			}
			wantPool(t, "P10.2: behind calls that were refused", p, m.state())
			doByName(p, nil, c, c.A)
			m.alone(c)
		}
	}
}

// The last slot is a slot as the first one is.
func TestLastSlot(t *testing.T) {
	for _, n := range []int{1, 2, 4096} {
		p := newPool(t, n)
		for range n {
			p.Take(nil, api.Node{A: 3, B: 1, C: 4, D: 1}, 5)
		}
		h := word(n, 1)
		x, _ := p.Read(nil, h)
		l, _ := p.SwapLink(nil, h, 6)
		ok, _ := p.CasMark(nil, h, 0, 7)
		if x != (api.Node{A: 3, B: 1, C: 4, D: 1}) || l != 5 || !ok || p.Slots()[n-1] != (api.Slot{Gen: 1, Node: x, Mark: 7, Link: 6}) {
			t.Errorf("P10.2: slot %d: %v, %d, %v, %+v", n, x, l, ok, p.Slots()[n-1])
		}
		if err := p.Give(nil, h); err != api.OK || p.Slots()[n-1] != given(2) || !slices.Equal(p.Free(), []int{n}) {
			t.Errorf("P10.2: Give of slot %d: %v, %+v, %v", n, err, p.Slots()[n-1], p.Free())
		}
	}
}

// A slot holds what it is told to, to the greatest numbers, each of them in its own place.
func TestNumbersAsTheyAre(t *testing.T) {
	for i, a := range farNumbers {
		p := newPool(t, 1)
		at := func(k int) int { return farNumbers[(i+k)%len(farNumbers)] }
		x := api.Node{A: a, B: at(1), C: at(2), D: at(3)}
		h, _ := p.Take(nil, x, at(4))
		want := api.Slot{Gen: 1, Node: x, Link: at(4)}
		wantPool(t, "P10.2: Take", p, state{[]api.Slot{want}, nil, 0})
		if y, err := p.Read(nil, h); y != x || err != api.OK {
			t.Errorf("P10.2: Read %v, %v, want %v", y, err, x)
		}
		if l, err := p.Link(nil, h); l != want.Link || err != api.OK {
			t.Errorf("P10.2: Link %d, %v, want %d", l, err, want.Link)
		}
		for k := range farNumbers {
			if l, err := p.SwapLink(nil, h, at(k)); l != want.Link || err != api.OK {
				t.Errorf("P10.2: SwapLink %d, %v, want %d", l, err, want.Link)
			}
			want.Link = at(k)
			wantPool(t, "P10.2: SwapLink", p, state{[]api.Slot{want}, nil, 0})
		}
		for k := range farNumbers {
			for _, other := range farNumbers {
				if ok, err := p.CasMark(nil, h, other, 9); other != want.Mark && (ok || err != api.OK) {
					t.Errorf("P10.2: CasMark from %d, it is %d: %v, %v", other, want.Mark, ok, err)
				} else if ok {
					want.Mark = 9
				}
			}
			if ok, err := p.CasMark(nil, h, want.Mark, at(k)); !ok || err != api.OK {
				t.Errorf("P10.2: CasMark(%d, %d): %v, %v", want.Mark, at(k), ok, err)
			}
			want.Mark = at(k)
			if v, err := p.Mark(nil, h); v != want.Mark || err != api.OK {
				t.Errorf("P10.2: Mark %d, %v, want %d", v, err, want.Mark)
			}
			wantPool(t, "P10.2: CasMark", p, state{[]api.Slot{want}, nil, 0})
		}
		p.Give(nil, h)
		wantPool(t, "P10.2: Give", p, state{[]api.Slot{given(2)}, []int{1}, 0})
		p.Take(nil, api.Node{D: a}, 0)
		wantPool(t, "P10.2: Take of what was given", p, state{[]api.Slot{{Gen: 3, Node: api.Node{D: a}}}, nil, 0})
	}
}

// CasMark stores what it is told also if it is what stands there.
func TestCasMarkOfTheSame(t *testing.T) {
	p := newPool(t, 1)
	h, _ := p.Take(nil, api.Node{}, 0)
	for _, v := range []int{0, 5} {
		p.CasMark(nil, h, 0, v)
		if ok, err := p.CasMark(nil, h, v, v); !ok || err != api.OK {
			t.Errorf("P10.2: CasMark(%d, %d): %v, %v", v, v, ok, err)
		}
		if ok, err := p.CasMark(nil, h, v+1, v); ok || err != api.OK {
			t.Errorf("P10.2: CasMark(%d, %d): %v, %v", v+1, v, ok, err)
		}
	}
}

// wantGone asks all calls of a handle that was given back: the slot stays as it is, and each but Give counts a fault.
func wantGone(t *testing.T, promise string, p *pool.Pool, h int) {
	t.Helper()
	was := stateOf(p)
	for _, c := range ofHandle(h) {
		wantErr(t, promise, p, c, api.ErrPoolGone)
		if c.Kind != 2 {
			was.faults++
		}
		wantPool(t, promise, p, was)
	}
}

func TestGone(t *testing.T) {
	p := newPool(t, 3)
	var elder []int
	for round := range 5 {
		h, err := p.Take(nil, api.Node{A: round, B: 1, C: 1, D: 1}, 10)
		if h != word(1, 2*round+1) || err != api.OK {
			t.Fatalf("P10.2: Take %d: %d, %v", round, h, err)
		}
		p.CasMark(nil, h, 0, poison)
		for _, g := range elder {
			wantGone(t, "P10.2: taken again", p, g)
		}
		for _, c := range ofHandle(h)[1:] {
			if a := doByName(p, nil, c, h); a.Err != api.OK {
				t.Errorf("P10.2: %+v of a good handle: %+v", c, a)
			}
		}
		if err := p.Give(nil, h); err != api.OK {
			t.Errorf("P10.2: Give %d: %v", round, err)
		}
		elder = append(elder, h)
		for _, g := range elder {
			wantGone(t, "P10.2: given back", p, g)
		}
	}
}

// A generation that a slot hasn't yet is as wrong as one that it hasn't any more.
func TestNotYet(t *testing.T) {
	p := newPool(t, 2)
	for _, h := range []int{word(1, 1), word(1, 3), word(2, 1), word(2, 1<<40-1)} {
		wantGone(t, "P10.2: never taken", p, h)
	}
	p.Take(nil, api.Node{A: 1}, 1)
	for _, h := range []int{word(1, 3), word(1, 5), word(1, 1<<32+1), word(1, 1<<40-1), word(2, 1)} {
		wantGone(t, "P10.2: not yet", p, h)
	}
	if _, err := p.Read(nil, word(1, 1)); err != api.OK {
		t.Errorf("P10.2: %v", err)
	}
}

// The free slots are a stack: what was given last is taken first.
func TestTakeOrder(t *testing.T) {
	for _, n := range []int{1, 2, 3, 7, 100} {
		r := mixer(n)
		p, m := newPool(t, n), newModel(n)
		var held []int
		for range 200 {
			if len(held) > 0 && r.below(2) == 0 {
				k := r.below(len(held))
				if got, want := p.Give(nil, held[k]), m.alone(give(held[k])).Err; got != want || got != api.OK {
					t.Fatalf("P10.2: Give(%d): %v, want %v", held[k], got, want)
				}
				held = slices.Delete(held, k, k+1)
			} else if h, err := p.Take(nil, api.Node{A: 1, B: 2}, 3); err == api.OK {
				if want := m.alone(take(1, 2, 3)); h != want.N || want.Err != api.OK {
					t.Fatalf("P10.2: Take %d, want %+v", h, want)
				}
				held = append(held, h)
			} else if h != 0 || err != api.ErrPoolFull || len(held) != n {
				t.Fatalf("P10.7: Take %d, %v, %d are held of %d", h, err, len(held), n)
			}
			wantPool(t, "P10.2", p, m.state())
		}
	}
}

// Alone, spoilt or not, a pool does its lines.
func TestAloneAgainstModel(t *testing.T) {
	r := mixer(9)
	for _, n := range []int{1, 2, 3, 5, 64} {
		for range 60 {
			p, m := newPool(t, n), newModel(n)
			do := byName(p)
			for i := range 40 {
				c := r.call(min(n, 7), i, true)
				if got, want := do(nil, c), m.alone(c); !sameAnswer(got, want) {
					t.Fatalf("P10.2: a pool of %d: %+v: %+v, want %+v", n, c, got, want)
				}
				wantPool(t, "P10.3", p, m.state())
			}
		}
	}
}

var noSlots = []int{lowest, lowest + 1, -1 << 40, -2, -1, 0, 4, 5, 4096, 4097, 1 << 32, 1<<32 + 1, 1<<40 + 1, highest}

func TestBackRefuses(t *testing.T) {
	p := newPool(t, 3)
	p.Take(nil, api.Node{A: 1}, 1)
	h, _ := p.Take(nil, api.Node{A: 1}, 1)
	p.Give(nil, h)
	was := stateOf(p)
	for _, i := range noSlots {
		for _, gen := range []int{lowest, -1, 0, 1, 2, highest} {
			wantErr(t, "P10.8: no slot", p, back(i, gen), api.ErrPoolHandle)
		}
	}
	for _, i := range []int{1, 2, 3} {
		for _, gen := range []int{lowest, lowest + 1, -1 << 40, -4, -3, -2, -1, 1, 3, 5, 1<<32 + 1, 1<<40 + 1, highest} {
			wantErr(t, "P10.8: no generation of a free slot", p, back(i, gen), api.ErrPoolHandle)
		}
	}
	for i, gens := range [][]int{{0, 2, 4}, {0, 4, 6}, {2, 4, 6}} {
		for _, gen := range append(gens, 1<<32, 1<<32+2, 1<<40, 1<<40+2, highest-1) {
			wantErr(t, "P10.8: not the slot's", p, back(i+1, gen), api.ErrPoolGone)
		}
	}
	wantPool(t, "P10.8: behind Backs that were refused", p, was)
}

// lost makes a pool in which the slot 1 was given by one who was halted ahead of its Push.
func lost(t *testing.T, n int) *pool.Pool {
	t.Helper()
	p := newPool(t, n)
	c := work([]api.Call{take(1, 2, 3), give(-1)})
	c.Halt = []int{4}
	if run, err := crew.Run(c, byName(p)); err != api.OK || len(run.Open) != 1 {
		t.Fatalf("P10.2: %+v, %v", run, err)
	}
	return p
}

func TestBackOfALostSlot(t *testing.T) {
	p := lost(t, 2)
	wantPool(t, "P10.2: lost", p, state{[]api.Slot{given(2), {}}, []int{2}, 0})
	wantErr(t, "P10.8: a lost slot", p, back(1, 0), api.ErrPoolGone)
	wantErr(t, "P10.8: a lost slot", p, back(1, 2), api.OK)
	wantPool(t, "P10.8: a lost slot", p, state{[]api.Slot{given(4), {}}, []int{1, 2}, 0})
	wantErr(t, "P10.8: once", p, back(1, 2), api.ErrPoolGone)
	wantGone(t, "P10.8: its elder handle", p, word(1, 1))
	wantGone(t, "P10.8: a handle that never was", p, word(1, 3))
	if h, err := p.Take(nil, api.Node{A: 9}, 8); h != word(1, 5) || err != api.OK {
		t.Errorf("P10.8: Take behind it: %d, %v", h, err)
	}
}

// A slot that is free, and not lost, gets into the pile twice: Takes answer its generations one behind the other, odd or even.
func TestBackThatSpoils(t *testing.T) {
	p := newPool(t, 2)
	wantErr(t, "P10.8: a slot that is free", p, back(1, 0), api.OK)
	wantPool(t, "P10.8: a ring", p, state{[]api.Slot{{Gen: 2}, {}}, []int{1}, 0})
	for k, gen := range []int{3, 4, 5, 6} {
		if h, err := p.Take(nil, api.Node{A: k, B: k}, k); h != word(1, gen) || err != api.OK {
			t.Fatalf("P10.8: Take of a ring: %d, %v, want %d", h, err, word(1, gen))
		}
		wantPool(t, "P10.8: a ring", p, state{[]api.Slot{used(gen, k, k, k), {}}, []int{1}, p.Faults()})
		if gen%2 == 0 {
			for _, c := range ofHandle(word(1, gen)) {
				wantErr(t, "P10.8: an even generation", p, c, api.ErrPoolHandle)
			}
			wantGone(t, "P10.8: ahead of an even generation", p, word(1, gen-1))
		} else if x, err := p.Read(nil, word(1, gen)); x.A != k || err != api.OK {
			t.Errorf("P10.8: Read of generation %d: %v, %v", gen, x, err)
		}
	}
	// What stands in a slot of an even generation stays behind a Back.
	wantErr(t, "P10.8: in use, of an even generation", p, back(1, 6), api.OK)
	wantPool(t, "P10.8", p, state{[]api.Slot{used(8, 3, 3, 3), {}}, []int{1}, p.Faults()})
}

// wantLines does a call by its name and looks at the pool behind each of its lines.
func wantLines(t *testing.T, promise string, p *pool.Pool, call api.Call, want api.Answer, moments ...state) {
	t.Helper()
	var seen []state
	do := byName(p)
	spy := does(func(w *crew.Worker, c api.Call) api.Answer {
		if w.Number() == 0 {
			return do(w, c)
		}
		seen = append(seen, stateOf(p))
		return api.Answer{}
	})
	c := work([]api.Call{call}, make([]api.Call, len(moments)))
	for range moments {
		c.Turns = append(c.Turns, 0, 1)
	}
	run, err := crew.Run(c, spy)
	if err != api.OK || len(run.Answers[0]) != 1 || run.Steps != 2*len(moments) {
		t.Fatalf("%s: %+v: %+v, %v", promise, call, run, err)
	}
	if a := run.Answers[0][0]; !sameAnswer(a, want) || a.Own != len(moments) {
		t.Errorf("%s: %+v: %+v, want %+v in %d lines", promise, call, a, want, len(moments))
	}
	for i, m := range moments {
		if !seen[i].same(m) {
			t.Errorf("%s: %+v: behind line %d: %+v, want %+v", promise, call, i+1, seen[i], m)
		}
	}
}

func TestLinesOfTakeAndGive(t *testing.T) {
	p := newPool(t, 2)
	was := state{make([]api.Slot, 2), []int{1, 2}, 0}
	is := state{[]api.Slot{used(1, 5, 6, 7), {}}, []int{2}, 0}
	wantLines(t, "P10.2: Take", p, take(5, 6, 7), api.Answer{N: word(1, 1)}, was, was, is)
	was, is = is, state{[]api.Slot{used(1, 5, 6, 7), used(1, 8, 9, -1)}, nil, 0}
	wantLines(t, "P10.2: Take", p, take(8, 9, -1), api.Answer{N: word(2, 1)}, was, was, is)
	wantLines(t, "P10.2: Take of a full pool", p, take(1, 1, 1), api.Answer{Err: api.ErrPoolFull}, is)
	was, is = state{[]api.Slot{given(2), used(1, 8, 9, -1)}, nil, 0}, state{[]api.Slot{given(2), used(1, 8, 9, -1)}, []int{1}, 0}
	wantLines(t, "P10.2: Give", p, give(word(1, 1)), api.Answer{}, was, was, was, is)
	wantLines(t, "P10.2: Give again", p, give(word(1, 1)), api.Answer{Err: api.ErrPoolGone}, is)
	was, is = state{[]api.Slot{given(2), given(2)}, []int{1}, 0}, state{[]api.Slot{given(2), given(2)}, []int{2, 1}, 0}
	wantLines(t, "P10.2: Give", p, give(word(2, 1)), api.Answer{}, was, was, was, is)
	for _, h := range noHandles(2) {
		if h >= 0 {
			wantLines(t, "P10.2: Give of no handle", p, give(h), api.Answer{Err: api.ErrPoolHandle}, is)
		}
	}
}

// The calls of one line: what they answer and leave of a good handle, of one that is gone, and of none.
func TestLinesOfTheOthers(t *testing.T) {
	h := word(1, 1)
	for _, x := range []struct {
		call api.Call
		want api.Answer
		left api.Slot
	}{
		{read(h), api.Answer{Ints: []int{5, 6, 0, 0}}, used(1, 5, 6, 7)},
		{mark(h), api.Answer{}, used(1, 5, 6, 7)},
		{casMark(h, 0, 3), api.Answer{Ok: true}, api.Slot{Gen: 1, Node: api.Node{A: 5, B: 6}, Mark: 3, Link: 7}},
		{casMark(h, 1, 3), api.Answer{}, used(1, 5, 6, 7)},
		{link(h), api.Answer{N: 7}, used(1, 5, 6, 7)},
		{swapLink(h, 9), api.Answer{N: 7}, used(1, 5, 6, 9)},
	} {
		p := newPool(t, 1)
		p.Take(nil, api.Node{A: 5, B: 6}, 7)
		wantLines(t, "P10.2", p, x.call, x.want, state{[]api.Slot{x.left}, nil, 0})
		for _, none := range noHandles(1) {
			if none >= 0 {
				c := x.call
				c.A = none
				wantLines(t, "P10.2: no handle", p, c, api.Answer{Err: api.ErrPoolHandle}, state{[]api.Slot{x.left}, nil, 0})
			}
		}
		p.Give(nil, h)
		wantLines(t, "P10.2: gone", p, x.call, api.Answer{Err: api.ErrPoolGone}, state{[]api.Slot{given(2)}, []int{1}, 1})
		p.Take(nil, api.Node{A: 1}, 2)
		wantLines(t, "P10.2: taken again", p, x.call, api.Answer{Err: api.ErrPoolGone}, state{[]api.Slot{used(3, 1, 0, 2)}, nil, 2})
	}
}

func TestLinesOfLookGensAndBack(t *testing.T) {
	p := newPool(t, 3)
	p.Take(nil, api.Node{A: 5}, 6)
	p.CasMark(nil, word(1, 1), 0, 4)
	is := state{[]api.Slot{{Gen: 1, Node: api.Node{A: 5}, Mark: 4, Link: 6}, {}, {}}, []int{2, 3}, 0}
	wantLines(t, "P10.8: Gens", p, gens(), api.Answer{Ints: []int{1, 4, 0, 0, 0, 0}}, is, is, is)
	wantLines(t, "P10.8: Look", p, look(), api.Answer{Ints: []int{2, 3}}, is, is, is, is)
	for _, c := range []api.Call{back(0, 0), back(4, 0), back(2, 1), back(2, -2), back(1, 1), back(lowest, lowest)} {
		wantLines(t, "P10.8: a Back that is refused", p, c, api.Answer{Err: api.ErrPoolHandle}, is)
	}
	for _, c := range []api.Call{back(1, 0), back(1, 2), back(2, 2), back(3, highest-1)} {
		wantLines(t, "P10.8: a Back of another generation", p, c, api.Answer{Err: api.ErrPoolGone}, is)
	}
	p = lost(t, 2)
	was := state{[]api.Slot{given(4), {}}, []int{2}, 0}
	is = state{[]api.Slot{given(4), {}}, []int{1, 2}, 0}
	wantLines(t, "P10.8: Back", p, back(1, 2), api.Answer{}, was, was, was, is)
}

// Gens has a line for each slot, Look one for each free slot and two more.
func TestLinesOfGreatPools(t *testing.T) {
	for _, n := range []int{1, 2, 64, 4095, 4096} {
		p := newPool(t, n)
		p.Take(nil, api.Node{}, 0)
		run, err := crew.Run(work([]api.Call{gens(), look()}), byName(p))
		if a := run.Answers[0]; err != api.OK || len(a) != 2 || a[0].Own != n || len(a[0].Ints) != 2*n || a[1].Own != n+1 || !slices.Equal(a[1].Ints, upTo(n)[1:]) {
			t.Errorf("P10.8: a pool of %d: %d and %d lines, %v", n, a[0].Own, a[1].Own, err)
		}
	}
}

// Calls that a greater one is made of do their own lines each, those that are refused too.
func TestLinesAddUp(t *testing.T) {
	p := newPool(t, 2)
	for _, x := range []struct {
		calls []api.Call
		lines int
	}{
		{[]api.Call{give(0), read(0), mark(0), casMark(0, 0, 0), link(0), swapLink(0, 0), back(0, 0), back(1, 1)}, 8},
		{[]api.Call{take(1, 1, 1), take(1, 1, 1), take(1, 1, 1)}, 3 + 3 + 1},
		{[]api.Call{read(word(1, 1)), mark(word(1, 1)), casMark(word(1, 1), 5, 5), link(word(1, 1)), swapLink(word(1, 1), 1)}, 5},
		{[]api.Call{give(word(1, 1)), give(word(1, 1)), read(word(1, 1)), gens(), look(), back(1, 0)}, 4 + 1 + 1 + 2 + 3 + 1},
	} {
		run, err := crew.Run(work([]api.Call{{}}), does(func(w *crew.Worker, _ api.Call) api.Answer {
			for _, c := range x.calls {
				doByName(p, w, c, c.A)
			}
			return api.Answer{}
		}))
		if err != api.OK || run.Steps != x.lines {
			t.Errorf("P10.2: %v in one call: %d lines, want %d", x.calls, run.Steps, x.lines)
		}
	}
}

// broken does a call of worker 0, broken off behind so many lines by all the others, which are worker 1's.
func broken(t *testing.T, p *pool.Pool, call api.Call, at int, others ...api.Call) api.Answer {
	t.Helper()
	c := work([]api.Call{call}, others)
	c.Turns = append(make([]int, at), slices.Repeat([]int{1}, 300)...)
	run, err := crew.Run(c, byName(p))
	if err != api.OK || run.Cut || len(run.Answers[0]) != 1 || len(run.Answers[1]) != len(others) {
		t.Fatalf("broken off behind %d lines: %+v, %v", at, run, err)
	}
	return run.Answers[0][0]
}

// wantBroken breaks a call off at each of its lines: by how many are done, what it answers, in how many lines.
func wantBroken(t *testing.T, promise string, make func() *pool.Pool, call api.Call, others []api.Call, want ...api.Answer) {
	t.Helper()
	for at, a := range want {
		if got := broken(t, make(), call, at, others...); !sameAnswer(got, a) || got.Own != a.Own {
			t.Errorf("%s: broken off behind %d lines: %+v, want %+v", promise, at, got, a)
		}
	}
}

// after makes a pool and does calls alone.
func after(t *testing.T, n int, calls ...api.Call) func() *pool.Pool {
	return func() *pool.Pool {
		p := newPool(t, n)
		do := byName(p)
		for _, c := range calls {
			do(nil, c)
		}
		return p
	}
}

func TestTakeGoesRound(t *testing.T) {
	took := func(slot, gen, own int) api.Answer { return api.Answer{N: word(slot, gen), Own: own} }
	full := func(own int) api.Answer { return api.Answer{Err: api.ErrPoolFull, Own: own} }
	wantBroken(t, "P10.2: Take, by a Take", after(t, 3), take(0, 0, 0), []api.Call{take(1, 1, 1)}, took(2, 1, 3), took(2, 1, 6), took(2, 1, 6), took(1, 1, 3))
	wantBroken(t, "P10.2: Take, by a Give", after(t, 3, take(1, 1, 1)), take(0, 0, 0), []api.Call{give(word(1, 1))}, took(1, 3, 3), took(1, 3, 6), took(1, 3, 6), took(2, 1, 3))
	wantBroken(t, "P10.2: Take, the same slot is at the top again", after(t, 3), take(0, 0, 0), []api.Call{take(1, 1, 1), give(-1)}, took(1, 3, 3), took(1, 3, 6), took(1, 3, 6), took(1, 1, 3))
	wantBroken(t, "P10.2: Take, the last one", after(t, 1), take(0, 0, 0), []api.Call{take(1, 1, 1)}, full(1), full(4), full(4), took(1, 1, 3))
	wantBroken(t, "P10.2: Take, by a Back", lostOf(t, 2), take(0, 0, 0), []api.Call{back(1, 2)}, took(1, 5, 3), took(1, 5, 6), took(1, 5, 6), took(2, 1, 3))
	nobody := []api.Call{read(word(1, 1)), give(word(1, 1)), gens(), look(), back(1, 2), back(0, 0), {Kind: 99}}
	wantBroken(t, "P10.2: Take, nobody changed the pile", after(t, 3), take(0, 0, 0), nobody, took(1, 1, 3), took(1, 1, 3), took(1, 1, 3))
}

func lostOf(t *testing.T, n int) func() *pool.Pool {
	return func() *pool.Pool { return lost(t, n) }
}

func TestGiveGoesRound(t *testing.T) {
	ok := func(own int) api.Answer { return api.Answer{Own: own} }
	one := after(t, 3, take(1, 1, 1))
	h := word(1, 1)
	wantBroken(t, "P10.2: Give, by a Take", one, give(h), []api.Call{take(2, 2, 2)}, ok(4), ok(4), ok(7), ok(7), ok(4))
	wantBroken(t, "P10.2: Give, by a Take and a Give", one, give(h), []api.Call{take(2, 2, 2), give(-1)}, ok(4), ok(4), ok(7), ok(7), ok(4))
	gone := api.Answer{Err: api.ErrPoolGone, Own: 1}
	wantBroken(t, "P10.2: Give, by a Give of the same", one, give(h), []api.Call{give(h)}, gone, ok(4), ok(4), ok(4), ok(4))
	wantBroken(t, "P10.2: Give, by a Give of the same and a Take", one, give(h), []api.Call{give(h), take(2, 2, 2)}, gone, ok(4), ok(7), ok(7), ok(4))
	wantBroken(t, "P10.2: Give, nobody changed the pile", one, give(h), []api.Call{read(h), swapLink(h, 1), gens(), look()}, ok(4), ok(4), ok(4), ok(4))
	wantBroken(t, "P10.8: Back, by a Take", lostOf(t, 3), back(1, 2), []api.Call{take(2, 2, 2)}, ok(4), ok(4), ok(7), ok(7), ok(4))
	wantBroken(t, "P10.8: Back, by a Back of the same", lostOf(t, 3), back(1, 2), []api.Call{back(1, 2)}, gone, ok(4), ok(4), ok(4), ok(4))
}

// While a Give is in the midst its slot is free, and in no pile: nobody takes it, and its handle is gone.
func TestInTheMidstOfAGive(t *testing.T) {
	h := word(1, 1)
	for at := 1; at <= 3; at++ {
		c := work([]api.Call{give(h)}, []api.Call{read(h), give(h), take(5, 5, 5), gens(), look()})
		c.Turns = append(make([]int, at), slices.Repeat([]int{1}, 100)...)
		c.Halt = []int{at}
		p := after(t, 1, take(1, 1, 1))()
		run, err := crew.Run(c, byName(p))
		if err != api.OK || len(run.Answers[1]) != 5 {
			t.Fatalf("P10.2: %+v, %v", run, err)
		}
		for i, want := range []api.Answer{{Err: api.ErrPoolGone}, {Err: api.ErrPoolGone}, {Err: api.ErrPoolFull}, {Ints: []int{2, poison}}, {}} {
			if a := run.Answers[1][i]; !sameAnswer(a, want) {
				t.Errorf("P10.2: halted behind %d lines of a Give: %+v, want %+v", at, a, want)
			}
		}
		wantPool(t, "P10.2: in the midst of a Give", p, state{[]api.Slot{given(2)}, nil, 1})
	}
}

// While a Take is in the midst its slot is as it was.
func TestInTheMidstOfATake(t *testing.T) {
	for at := 1; at <= 2; at++ {
		p := after(t, 2, take(1, 1, 1), give(-1))()
		c := work([]api.Call{take(5, 5, 5)}, []api.Call{read(word(1, 3)), gens(), look()})
		c.Turns, c.Halt = make([]int, at), []int{at}
		run, err := crew.Run(c, byName(p))
		if err != api.OK || len(run.Answers[1]) != 3 || run.Answers[1][0].Err != api.ErrPoolGone {
			t.Fatalf("P10.2: %+v, %v", run, err)
		}
		wantPool(t, "P10.2: in the midst of a Take", p, state{[]api.Slot{given(2), {}}, []int{1, 2}, 1})
	}
}

// Gens looks at one slot behind the other: what it tells of each is what that is at its line.
func TestGensInTheMidst(t *testing.T) {
	for at, want := range [][]int{{3, 7, 1, 5, 2, poison}, {1, 0, 1, 5, 2, poison}, {1, 0, 1, 0, 2, poison}, {1, 0, 1, 0, 1, 0}} {
		p := after(t, 3, take(1, 1, 1), take(2, 2, 2), take(3, 3, 3))()
		a := broken(t, p, gens(), at, give(word(1, 1)), take(4, 4, 4), casMark(word(1, 3), 0, 7), casMark(word(2, 1), 0, 5), give(word(3, 1)))
		if !slices.Equal(a.Ints, want) || a.Own != 3 {
			t.Errorf("P10.8: Gens, broken off behind %d lines: %+v, want %v", at, a, want)
		}
	}
}

// Look goes round again, if the pile was changed; what it tells is one moment's.
func TestLookInTheMidst(t *testing.T) {
	for at, own := range []int{4, 4 + 4, 5 + 4, 5 + 4, 5 + 4} {
		a := broken(t, newPool(t, 3), look(), at, take(1, 1, 1), take(1, 1, 1), give(-1))
		if !slices.Equal(a.Ints, []int{1, 3}) || a.Own != own {
			t.Errorf("P10.8: Look, broken off behind %d lines: %+v, want %d lines", at, a, own)
		}
	}
	if a := broken(t, newPool(t, 2), look(), 2, read(word(1, 1)), gens(), look()); !slices.Equal(a.Ints, []int{1, 2}) || a.Own != 4 {
		t.Errorf("P10.8: Look, nobody changed the pile: %+v", a)
	}
}

// Which line of a Back meets the generation: a Give's first line comes ahead of it, or behind it.
func TestLineAtWhichBackMeets(t *testing.T) {
	for _, x := range []struct {
		turns []int
		want  api.Errno
	}{{[]int{0, 1, 1, 1, 1}, api.OK}, {[]int{1, 0, 0, 0, 0}, api.ErrPoolGone}} {
		p := after(t, 2, take(1, 1, 1))()
		c := work([]api.Call{give(word(1, 1))}, []api.Call{back(1, 2)})
		c.Turns, c.Halt = x.turns, []int{1}
		run, err := crew.Run(c, byName(p))
		if err != api.OK || len(run.Answers[1]) != 1 || run.Answers[1][0].Err != x.want {
			t.Errorf("P10.8: turns %v: %+v, %v", x.turns, run, err)
		}
	}
}

// Calls by their names, by the workers of a run, do the same lines as Play's.
func TestByNameAgainstModel(t *testing.T) {
	mixedPlays(3000, true, func(x mixed) {
		p, m := newPool(t, x.n), newModel(x.n)
		got, _ := crew.Run(x.c, byName(p))
		want := modelRun(x.c, m.begin)
		if !sameRun(got, want) || !stateOf(p).same(m.state()) {
			t.Fatalf("P10.2: %+v\ngot  %+v %+v\nwant %+v %+v", x, got, stateOf(p), want, m.state())
		}
	})
}

// writeOver writes into a list and all the spare room behind it.
func writeOver(list []int) {
	list = list[:cap(list)]
	for i := range list {
		list[i] = -99
	}
}

func writeOverSlots(list []api.Slot) {
	list = list[:cap(list)]
	for i := range list {
		list[i] = used(-99, -99, -99, -99)
	}
}

// What a list that was answered is used for changes neither the pool nor another list.
func TestListsAreTheirOwnersOwn(t *testing.T) {
	for _, n := range []int{2, 3, 5, 100} {
		p, m := newPool(t, n), newModel(n)
		for _, c := range []api.Call{take(1, 2, 3), take(4, 5, 6), give(word(1, 1)), casMark(word(2, 1), 0, 9)} {
			doByName(p, nil, c, c.A)
			m.alone(c)
		}
		want := m.state()
		wantPool(t, "rule 3", p, want)
		writeOverSlots(p.Slots())
		wantPool(t, "rule 3: behind Slots that were written over", p, want)
		a, b := p.Free(), p.Look(nil)
		g, marks := p.Gens(nil)
		lists := [][]int{a, b, g, marks}
		for i, list := range lists {
			kept := make([][]int, len(lists))
			for k := range lists {
				kept[k] = slices.Clone(lists[k])
			}
			writeOver(list)
			_ = append(list, -98)
			for k := range lists {
				if k != i && !slices.Equal(lists[k], kept[k]) {
					t.Fatalf("rule 3: lists %d and %d share memory", i, k)
				}
			}
			wantPool(t, "rule 3: behind a list that was written over", p, want)
		}
	}
}

// What was told of a pool stays as it is, whatever is done behind it.
func TestToldListsStay(t *testing.T) {
	p := newPool(t, 3)
	h, _ := p.Take(nil, api.Node{A: 1}, 2)
	x, _ := p.Read(nil, h)
	was, free := p.Slots(), p.Look(nil)
	g, marks := p.Gens(nil)
	p.CasMark(nil, h, 0, 5)
	p.Give(nil, h)
	p.Take(nil, api.Node{A: 7}, 7)
	p.Take(nil, api.Node{A: 7}, 7)
	if x != (api.Node{A: 1}) || !slices.Equal(was, []api.Slot{used(1, 1, 0, 2), {}, {}}) || !slices.Equal(free, []int{2, 3}) || !slices.Equal(g, []int{1, 0, 0}) || !slices.Equal(marks, []int{0, 0, 0}) {
		t.Errorf("rule 3: %v, %v, %v, %v, %v", x, was, free, g, marks)
	}
}

// Two pools don't touch one another: a handle of the one is one of the other by its number alone.
func TestPoolsDoNotTouch(t *testing.T) {
	p, q := newPool(t, 2), newPool(t, 2)
	h, _ := p.Take(nil, api.Node{A: 1}, 1)
	wantPool(t, "rule 6", q, state{make([]api.Slot, 2), []int{1, 2}, 0})
	wantGone(t, "rule 6", q, h)
	wantPool(t, "rule 6", p, state{[]api.Slot{used(1, 1, 0, 1), {}}, []int{2}, 0})
	g, _ := q.Take(nil, api.Node{A: 2}, 2)
	p.CasMark(nil, h, 0, 9)
	p.Give(nil, h)
	if x, err := q.Read(nil, g); g != h || x != (api.Node{A: 2}) || err != api.OK {
		t.Errorf("rule 6: %d, %v, %v", g, x, err)
	}
}

// The slots of a new pool are alike, but not one: what one holds isn't another one's.
func TestSlotsDoNotTouch(t *testing.T) {
	p := newPool(t, 4)
	a, _ := p.Take(nil, api.Node{A: 1}, 1)
	b, _ := p.Take(nil, api.Node{A: 2}, 2)
	p.CasMark(nil, a, 0, 5)
	p.SwapLink(nil, b, 6)
	wantPool(t, "P10.1", p, state{[]api.Slot{{Gen: 1, Node: api.Node{A: 1}, Mark: 5, Link: 1}, used(1, 2, 0, 6), {}, {}}, []int{3, 4}, 0})
	p.Give(nil, a)
	wantPool(t, "P10.2", p, state{[]api.Slot{given(2), used(1, 2, 0, 6), {}, {}}, []int{1, 3, 4}, 0})
}
