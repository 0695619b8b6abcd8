package trie_test

import (
	"fmt"
	"slices"
	"strings"
	"testing"

	"skein/api"
	"skein/crew"
	"skein/trie"
)

// wantCall does a named call and asks for its answer and its lines.
func (w twin) wantCall(t *testing.T, promise string, c api.Call, want api.Answer, lines int) {
	t.Helper()
	if a := w.wants(t, promise, c); !sameAnswer(a, want) || a.Own != lines {
		t.Fatalf("%s: %+v: %+v, want %+v in %d lines", promise, c, a, want, lines)
	}
}

func (w twin) wantNode(t *testing.T, promise string, h int, want api.Node) {
	t.Helper()
	if x, err := w.p.Read(nil, h); err != api.OK || x != want {
		t.Fatalf("%s: node %d: %v, %v, want %v", promise, h, x, err, want)
	}
}

func failed(err api.Errno) api.Answer    { return api.Answer{Err: err} }
func paired(key, value int) api.Answer   { return api.Answer{N: key, M: value} }
func counted(n int) api.Answer           { return api.Answer{N: n} }
func listed(list ...int) api.Answer      { return api.Answer{Ints: list} }
func found(value int) api.Answer         { return api.Answer{N: value, Ok: true} }
func walked(list ...api.Pair) api.Answer { return api.Answer{Pairs: list} }

// edited: what a Put or a Drop of a key without a value answers; of one with a value: had.
func edited(root int, gone, made []int) api.Answer {
	return api.Answer{N: root, Ints: slices.Concat([]int{len(gone)}, gone, made)}
}

func had(old, root int, gone, made []int) api.Answer {
	a := edited(root, gone, made)
	a.Ok, a.M = true, old
	return a
}

// ten: the pairs of keys whose values are ten times themselves.
func ten(keys ...int) []api.Pair {
	var list []api.Pair
	for _, key := range keys {
		list = append(list, api.Pair{Key: key, Value: 10 * key})
	}
	return list
}

func TestExample(t *testing.T) {
	w := newTwin(t, 9)
	h := func(slot int) int { return word(slot, 1) }
	w.wantCall(t, "example", put(5, 50, 0), edited(h(1), nil, []int{h(1)}), 3)
	w.wantNode(t, "example", h(1), api.Node{A: 0, B: 5, C: 50, D: 1})
	w.wantCall(t, "example", put(7, 70, h(1)), edited(h(3), nil, []int{h(2), h(3)}), 7)
	w.wantNode(t, "example", h(2), api.Node{A: 0, B: 7, C: 70, D: 1})
	w.wantNode(t, "example", h(3), api.Node{A: 4*64 + 2, B: h(1), C: h(2), D: 2})
	w.wantCall(t, "example", put(6, 60, h(3)), edited(h(6), []int{h(3)}, []int{h(4), h(5), h(6)}), 11)
	w.wantNode(t, "example", h(4), api.Node{A: 0, B: 6, C: 60, D: 1})
	w.wantNode(t, "example", h(5), api.Node{A: 6*64 + 1, B: h(4), C: h(2), D: 2})
	w.wantNode(t, "example", h(6), api.Node{A: 4*64 + 2, B: h(1), C: h(5), D: 3})
	w.wantCall(t, "example", rank(7, h(6)), counted(2), 3)
	w.wantCall(t, "example", nth(1, h(6)), paired(6, 60), 4)
	w.wantCall(t, "example", after(5, h(6)), paired(6, 60), 3)
	w.wantCall(t, "example", after(7, h(6)), failed(api.ErrTrieNone), 1)
	w.wantCall(t, "example", drop(6, h(6)), had(60, h(7), []int{h(4), h(5), h(6)}, []int{h(7)}), 6)
	w.wantNode(t, "example", h(7), api.Node{A: 4*64 + 2, B: h(1), C: h(2), D: 2})
}

// Without a worker a call is done alone.
func TestAlone(t *testing.T) {
	w := newTwin(t, 20)
	x := w.x
	a, err := x.Put(nil, 0, 5, 50)
	b, err2 := x.Put(nil, a.Root, 7, 70)
	if err != api.OK || err2 != api.OK || b.Root != word(3, 1) || b.Had || b.Old != 0 || len(b.Gone) != 0 || !slices.Equal(b.Made, []int{word(2, 1), word(3, 1)}) {
		t.Fatalf("P12.6: %+v, %v, %+v, %v", a, err, b, err2)
	}
	v, ok, err := x.Find(nil, b.Root, 7)
	n, err2 := x.Count(nil, b.Root)
	r, err3 := x.Rank(nil, b.Root, 7)
	s, err4 := x.Select(nil, b.Root, 1)
	next, err5 := x.Next(nil, b.Root, 5)
	if v != 70 || !ok || n != 2 || r != 1 || s != (api.Pair{Key: 7, Value: 70}) || next != s || err+err2+err3+err4+err5 != api.OK {
		t.Errorf("P12.4, P12.5: %d, %t, %d, %d, %v, %v", v, ok, n, r, s, next)
	}
	list, err := x.Nodes(nil, b.Root)
	if err != api.OK || !slices.Equal(list, []int{word(3, 1), word(1, 1), word(2, 1)}) {
		t.Errorf("P12.9: Nodes: %v, %v", list, err)
	}
	for p, err := range x.Walk(nil, b.Root, 6, most) {
		if err != api.OK || p != s {
			t.Errorf("P12.9: Walk: %v, %v", p, err)
		}
	}
	for c, err := range x.Diff(nil, a.Root, b.Root) {
		if err != api.OK || c != (api.Change{Key: 7, New: 70, Has: true}) {
			t.Errorf("P12.9: Diff: %v, %v", c, err)
		}
	}
	d, err := x.Drop(nil, b.Root, 5)
	if err != api.OK || d.Root != word(2, 1) || !d.Had || d.Old != 50 || !slices.Equal(d.Gone, []int{word(1, 1), word(3, 1)}) || len(d.Made) != 0 {
		t.Errorf("P12.7: %+v, %v", d, err)
	}
	if err := x.Undo(nil, b.Made); err != api.OK || !slices.Equal(w.p.Free()[:2], []int{2, 3}) || len(w.p.Free()) != 19 {
		t.Errorf("P12.8: Undo: %v, %v", err, w.p.Free())
	}
}

// Several tries over one pool are the same: they keep nothing.
func TestTriesKeepNothing(t *testing.T) {
	w := newTwin(t, 20)
	a, _ := w.x.Put(nil, 0, 5, 50)
	b, err := trie.New(w.p).Put(nil, a.Root, 7, 70)
	v, ok, err2 := trie.New(w.p).Find(nil, b.Root, 5)
	if err != api.OK || err2 != api.OK || v != 50 || !ok || len(w.p.Free()) != 17 {
		t.Errorf("rule 6: %+v, %v, %d, %t, %v", b, err, v, ok, err2)
	}
}

// A leaf's numbers: those of every key and every value.
func TestLeaf(t *testing.T) {
	for _, key := range slices.Concat(edgeKeys, fewKeys, []int{12345, 1 << 30}) {
		for _, value := range append(edgeValues, key) {
			w := newTwin(t, 3)
			h := word(1, 1)
			w.wantCall(t, "P12.6: root 0", put(key, value, 0), edited(h, nil, []int{h}), 3)
			w.wantNode(t, "P12.1", h, api.Node{B: key, C: value, D: 1})
			w.wantCall(t, "P12.4", find(key, h), found(value), 1)
			w.wantCall(t, "P12.9", walk(key, key, h), walked(api.Pair{Key: key, Value: value}), 1)
			w.wantCall(t, "P12.5", nth(0, h), paired(key, value), 1)
			w.wantCall(t, "P12.9", nodes(h), listed(h), 1)
		}
	}
}

// An inner node's numbers: at every place, of keys whose bits above it are all unlike ones.
func TestInner(t *testing.T) {
	for place := range 32 {
		for _, above := range []int{0, most, 0x5555_5555, 0xAAAA_AAAA, 0x1234_5678} {
			first := above >> (place + 1) << (place + 1)
			for _, low := range []int{0, 1<<place - 1, (1<<place - 1) & 0x0F0F_F0F0} {
				a, b := first|low, first|1<<place|(low^(1<<place-1))
				for _, keys := range [][]int{{a, b}, {b, a}} {
					w := newTwin(t, 5)
					root := w.root(t, keys...)
					x := api.Node{A: inner(first, place), B: word(1, 1), C: word(2, 1), D: 2}
					if keys[0] == b {
						x.B, x.C = x.C, x.B
					}
					w.wantNode(t, fmt.Sprintf("P12.1: keys %v, place %d", keys, place), root, x)
					last := first + 1<<(place+1) - 1
					w.wantCall(t, "P12.3: within the span", find(first, root), map[bool]api.Answer{true: found(10 * first)}[a == first], 2)
					if last < most {
						w.wantCall(t, "P12.3: beyond the span", find(last+1, root), api.Answer{}, 1)
						w.wantCall(t, "P12.4: all below", rank(last+1, root), counted(2), 1)
					}
					if first > 0 {
						w.wantCall(t, "P12.3: below the span", find(first-1, root), api.Answer{}, 1)
						w.wantCall(t, "P12.4: none below", rank(first-1, root), counted(0), 1)
						w.wantCall(t, "P12.5: below the span", after(first-1, root), paired(a, 10*a), 2)
					}
				}
			}
		}
	}
}

// spanName: "4-7" an inner node's, "5" a leaf's.
func spanName(x api.Node) string {
	if x.A == 0 {
		return fmt.Sprint(x.B)
	}
	first := (x.A - 1) / 64
	return fmt.Sprintf("%d-%d", first, first+2<<((x.A-1)%64)-1)
}

// names: the nodes of a root by their spans' names, each with letters ahead of it.
func (w twin) names(t *testing.T, ahead string, root int, into map[string]int) {
	t.Helper()
	list, err := w.x.Nodes(nil, root)
	if err != api.OK {
		t.Fatalf("P12.9: Nodes: %v", err)
	}
	for _, h := range list {
		x, _ := w.p.Read(nil, h)
		into[ahead+spanName(x)] = h
	}
}

// setup makes a pool with what a call needs, the same each time: the roots, by letters.
type setup func(t *testing.T) (twin, map[string]int)

// reads tells which nodes a call reads, in their order: where one was given back ahead, it ends with the line that reads that one.
func reads(t *testing.T, make setup, call func(roots map[string]int) api.Call) []int {
	t.Helper()
	w, roots := make(t)
	lines := w.by(t, call(roots)).Own
	order := map[int]int{}
	for i, s := range w.m.state().slots {
		h := word(i+1, s.Gen)
		if s.Gen%2 == 0 {
			continue
		}
		w, roots := make(t)
		w.p.Give(nil, h)
		if a := w.by(t, call(roots)); a.Err == api.ErrPoolGone {
			if order[a.Own] != 0 || a.Own > lines {
				t.Fatalf("P12.2: line %d of %d reads %d and %d", a.Own, lines, order[a.Own], h)
			}
			order[a.Own] = h
		}
	}
	var list []int
	for i := 1; order[i] != 0; i++ {
		list = append(list, order[i])
	}
	if len(list) != len(order) {
		t.Fatalf("P12.2: not all first lines are reads: %v", order)
	}
	return list
}

// wantReads: a call, which nodes it reads, by their names, in which order, what it answers; it does these lines, and three for each node that it makes.
func wantReads(t *testing.T, promise string, make setup, call func(roots map[string]int) api.Call, names string, want api.Answer) {
	t.Helper()
	w, roots := make(t)
	all := map[string]int{}
	for name, root := range roots {
		w.names(t, name, root, all)
	}
	var handles []int
	for _, name := range strings.Fields(names) {
		if all[name] == 0 {
			t.Fatalf("%s: no node %s: %v", promise, name, all)
		}
		handles = append(handles, all[name])
	}
	c := call(roots)
	if got := reads(t, make, call); !slices.Equal(got, handles) {
		t.Fatalf("%s: %+v reads %v, want %v (%s)", promise, c, got, handles, names)
	}
	lines := len(handles)
	if c.Kind == 2 || c.Kind == 3 {
		made := 0
		if len(want.Ints) > 0 {
			made = len(want.Ints) - 1 - want.Ints[0]
		}
		lines += 3 * made
	}
	w.wantCall(t, promise, c, want, max(lines, 1))
}

// fiveKeys: keys whose tree is of every kind: 0-15 has 0-7 and 12, 0-7 has 1 and 4-7, that has 4-5 and 7.
func fiveKeys(t *testing.T) (twin, map[string]int) {
	w := newTwin(t, 60)
	return w, map[string]int{"a": w.root(t, 1, 4, 5, 7, 12)}
}

func highKeys(t *testing.T) (twin, map[string]int) {
	w := newTwin(t, 60)
	return w, map[string]int{"a": w.root(t, 20, 21, 23)}
}

func ofA(f func(r int) api.Call) func(map[string]int) api.Call {
	return func(roots map[string]int) api.Call { return f(roots["a"]) }
}

func TestWhatIsRead(t *testing.T) {
	none := failed(api.ErrTrieNone)
	for _, row := range []struct {
		call  func(r int) api.Call
		names string
		want  api.Answer
	}{
		{func(r int) api.Call { return find(5, r) }, "a0-15 a0-7 a4-7 a4-5 a5", found(50)},
		{func(r int) api.Call { return find(4, r) }, "a0-15 a0-7 a4-7 a4-5 a4", found(40)},
		{func(r int) api.Call { return find(6, r) }, "a0-15 a0-7 a4-7 a7", api.Answer{}},
		{func(r int) api.Call { return find(7, r) }, "a0-15 a0-7 a4-7 a7", found(70)},
		{func(r int) api.Call { return find(0, r) }, "a0-15 a0-7 a1", api.Answer{}},
		{func(r int) api.Call { return find(12, r) }, "a0-15 a12", found(120)},
		{func(r int) api.Call { return find(8, r) }, "a0-15 a12", api.Answer{}},
		{func(r int) api.Call { return find(16, r) }, "a0-15", api.Answer{}},
		{func(r int) api.Call { return find(most, r) }, "a0-15", api.Answer{}},
		{func(r int) api.Call { return count(r) }, "a0-15", counted(5)},
		{func(r int) api.Call { return rank(0, r) }, "a0-15 a0-7 a1", counted(0)},
		{func(r int) api.Call { return rank(1, r) }, "a0-15 a0-7 a1", counted(0)},
		{func(r int) api.Call { return rank(2, r) }, "a0-15 a0-7 a1", counted(1)},
		{func(r int) api.Call { return rank(5, r) }, "a0-15 a0-7 a4-7 a4-5 a5", counted(2)},
		{func(r int) api.Call { return rank(6, r) }, "a0-15 a0-7 a4-7 a7", counted(3)},
		{func(r int) api.Call { return rank(13, r) }, "a0-15 a12", counted(5)},
		{func(r int) api.Call { return rank(12, r) }, "a0-15 a12", counted(4)},
		{func(r int) api.Call { return rank(16, r) }, "a0-15", counted(5)},
		{func(r int) api.Call { return nth(0, r) }, "a0-15 a0-7 a1", paired(1, 10)},
		{func(r int) api.Call { return nth(1, r) }, "a0-15 a0-7 a1 a4-7 a4-5 a4", paired(4, 40)},
		{func(r int) api.Call { return nth(2, r) }, "a0-15 a0-7 a1 a4-7 a4-5 a4 a5", paired(5, 50)},
		{func(r int) api.Call { return nth(3, r) }, "a0-15 a0-7 a1 a4-7 a4-5 a7", paired(7, 70)},
		{func(r int) api.Call { return nth(4, r) }, "a0-15 a0-7 a12", paired(12, 120)},
		{func(r int) api.Call { return nth(5, r) }, "a0-15", none},
		{func(r int) api.Call { return nth(-1, r) }, "a0-15", none},
		{func(r int) api.Call { return nth(lowest, r) }, "a0-15", none},
		{func(r int) api.Call { return nth(highest, r) }, "a0-15", none},
		{func(r int) api.Call { return after(0, r) }, "a0-15 a0-7 a1", paired(1, 10)},
		{func(r int) api.Call { return after(1, r) }, "a0-15 a0-7 a1 a4-7 a4-5 a4", paired(4, 40)},
		{func(r int) api.Call { return after(3, r) }, "a0-15 a0-7 a4-7 a4-5 a4", paired(4, 40)},
		{func(r int) api.Call { return after(4, r) }, "a0-15 a0-7 a4-7 a4-5 a5", paired(5, 50)},
		{func(r int) api.Call { return after(5, r) }, "a0-15 a0-7 a4-7 a7", paired(7, 70)},
		{func(r int) api.Call { return after(7, r) }, "a0-15 a12", paired(12, 120)},
		{func(r int) api.Call { return after(12, r) }, "a0-15 a12", none},
		{func(r int) api.Call { return after(15, r) }, "a0-15", none},
		{func(r int) api.Call { return after(most-1, r) }, "a0-15", none},
		{func(r int) api.Call { return after(most, r) }, "", none},
		{func(r int) api.Call { return walk(0, most, r) }, "a0-15 a0-7 a1 a4-7 a4-5 a4 a5 a7 a12", walked(ten(1, 4, 5, 7, 12)...)},
		{func(r int) api.Call { return walk(5, 7, r) }, "a0-15 a0-7 a4-7 a4-5 a5 a7", walked(ten(5, 7)...)},
		{func(r int) api.Call { return walk(5, 6, r) }, "a0-15 a0-7 a4-7 a4-5 a5 a7", walked(ten(5)...)},
		{func(r int) api.Call { return walk(2, 3, r) }, "a0-15 a0-7 a1", walked()},
		{func(r int) api.Call { return walk(3, 4, r) }, "a0-15 a0-7 a1 a4-7 a4-5 a4", walked(ten(4)...)},
		{func(r int) api.Call { return walk(8, 8, r) }, "a0-15 a12", walked()},
		{func(r int) api.Call { return walk(16, most, r) }, "a0-15", walked()},
		{func(r int) api.Call { return walk(5, 3, r) }, "a0-15", walked()},
		{func(r int) api.Call { return walk(most, 0, r) }, "a0-15", walked()},
		{func(r int) api.Call { return left(walk(0, most, r), 2) }, "a0-15 a0-7 a1 a4-7 a4-5 a4", walked(ten(1, 4)...)},
		{func(r int) api.Call { return drop(6, r) }, "a0-15 a0-7 a4-7 a7", none},
		{func(r int) api.Call { return drop(16, r) }, "a0-15", none},
		{func(r int) api.Call { return diff(r, r) }, "", listed()},
		{func(r int) api.Call { return diff(r, 0) }, "a0-15 a0-7 a1 a4-7 a4-5 a4 a5 a7 a12", listed(1, 1, 10, 0, 0, 4, 1, 40, 0, 0, 5, 1, 50, 0, 0, 7, 1, 70, 0, 0, 12, 1, 120, 0, 0)},
		{func(r int) api.Call { return diff(0, r) }, "a0-15 a0-7 a1 a4-7 a4-5 a4 a5 a7 a12", listed(1, 0, 0, 1, 10, 4, 0, 0, 1, 40, 5, 0, 0, 1, 50, 7, 0, 0, 1, 70, 12, 0, 0, 1, 120)},
		{func(r int) api.Call { return left(diff(r, 0), 1) }, "a0-15 a0-7 a1", listed(1, 1, 10, 0, 0)},
		{func(r int) api.Call { return left(diff(0, r), 3) }, "a0-15 a0-7 a1 a4-7 a4-5 a4 a5", listed(1, 0, 0, 1, 10, 4, 0, 0, 1, 40, 5, 0, 0, 1, 50)},
	} {
		wantReads(t, "P12.2 to P12.9", fiveKeys, ofA(row.call), row.names, row.want)
	}
	for _, row := range []struct {
		call  func(r int) api.Call
		names string
		want  api.Answer
	}{
		{func(r int) api.Call { return find(0, r) }, "a20-23", api.Answer{}},
		{func(r int) api.Call { return rank(19, r) }, "a20-23", counted(0)},
		{func(r int) api.Call { return rank(24, r) }, "a20-23", counted(3)},
		{func(r int) api.Call { return after(0, r) }, "a20-23 a20-21 a20", paired(20, 200)},
		{func(r int) api.Call { return after(19, r) }, "a20-23 a20-21 a20", paired(20, 200)},
		{func(r int) api.Call { return after(20, r) }, "a20-23 a20-21 a21", paired(21, 210)},
		{func(r int) api.Call { return after(21, r) }, "a20-23 a23", paired(23, 230)},
		{func(r int) api.Call { return after(23, r) }, "a20-23", none},
		{func(r int) api.Call { return walk(0, 19, r) }, "a20-23", walked()},
		{func(r int) api.Call { return walk(0, 20, r) }, "a20-23 a20-21 a20", walked(ten(20)...)},
	} {
		wantReads(t, "P12.2 to P12.9", highKeys, ofA(row.call), row.names, row.want)
	}
}

func TestNodesAreReadInTheirOrder(t *testing.T) {
	w, roots := fiveKeys(t)
	all := map[string]int{}
	w.names(t, "", roots["a"], all)
	var want []int
	for _, name := range []string{"0-15", "0-7", "1", "4-7", "4-5", "4", "5", "7", "12"} {
		want = append(want, all[name])
	}
	wantReads(t, "P12.9: Nodes", fiveKeys, ofA(nodes), "a0-15 a0-7 a1 a4-7 a4-5 a4 a5 a7 a12", listed(want...))
}

// What Put and Drop read is what going down reads; what they make and what they do without, from below.
func TestEdits(t *testing.T) {
	w, roots := fiveKeys(t)
	all := map[string]int{}
	w.names(t, "", roots["a"], all)
	handles := func(names string) []int {
		var list []int
		for _, name := range strings.Fields(names) {
			list = append(list, all[name])
		}
		return list
	}
	free := w.p.Free()
	for _, row := range []struct {
		promise     string
		call        func(r int) api.Call
		names, gone string
		makes       []api.Node // B and C below 0: the handle that was made ahead of it so many times
		old         int        // below 0: none
		root        string     // if nothing is made
	}{
		{"P12.6: another value", func(r int) api.Call { return put(5, 51, r) }, "a0-15 a0-7 a4-7 a4-5 a5", "5 4-5 4-7 0-7 0-15",
			[]api.Node{{B: 5, C: 51, D: 1}, {A: inner(4, 0), B: all["4"], C: -1, D: 2}, {A: inner(4, 1), B: -1, C: all["7"], D: 3}, {A: inner(0, 2), B: all["1"], C: -1, D: 4}, {A: inner(0, 3), B: -1, C: all["12"], D: 5}}, 50, ""},
		{"P12.6: the same value", func(r int) api.Call { return put(5, 50, r) }, "a0-15 a0-7 a4-7 a4-5 a5", "", nil, 50, "0-15"},
		{"P12.6: a new key beside a leaf, above it", func(r int) api.Call { return put(3, 30, r) }, "a0-15 a0-7 a1", "0-7 0-15",
			[]api.Node{{B: 3, C: 30, D: 1}, {A: inner(0, 1), B: all["1"], C: -1, D: 2}, {A: inner(0, 2), B: -1, C: all["4-7"], D: 5}, {A: inner(0, 3), B: -1, C: all["12"], D: 6}}, -1, ""},
		{"P12.6: a new key beside a leaf, below it", func(r int) api.Call { return put(8, 80, r) }, "a0-15 a12", "0-15",
			[]api.Node{{B: 8, C: 80, D: 1}, {A: inner(8, 2), B: -1, C: all["12"], D: 2}, {A: inner(0, 3), B: all["0-7"], C: -1, D: 6}}, -1, ""},
		{"P12.6: a new key above all", func(r int) api.Call { return put(most, 1, r) }, "a0-15", "",
			[]api.Node{{B: most, C: 1, D: 1}, {A: inner(0, 31), B: all["0-15"], C: -1, D: 6}}, -1, ""},
		{"P12.7: deep", func(r int) api.Call { return drop(5, r) }, "a0-15 a0-7 a4-7 a4-5 a5", "5 4-5 4-7 0-7 0-15",
			[]api.Node{{A: inner(4, 1), B: all["4"], C: all["7"], D: 2}, {A: inner(0, 2), B: all["1"], C: -1, D: 3}, {A: inner(0, 3), B: -1, C: all["12"], D: 4}}, 50, ""},
		{"P12.7: beside an inner one", func(r int) api.Call { return drop(1, r) }, "a0-15 a0-7 a1", "1 0-7 0-15",
			[]api.Node{{A: inner(0, 3), B: all["4-7"], C: all["12"], D: 4}}, 10, ""},
		{"P12.7: just below the root", func(r int) api.Call { return drop(12, r) }, "a0-15 a12", "12 0-15", nil, 120, "0-7"},
	} {
		var made []int
		for i := range row.makes {
			made = append(made, word(free[i], 1))
		}
		root := all[row.root]
		if len(made) > 0 {
			root = made[len(made)-1]
		}
		want := edited(root, handles(row.gone), made)
		if row.old >= 0 {
			want = had(row.old, root, handles(row.gone), made)
		}
		wantReads(t, row.promise, fiveKeys, ofA(row.call), row.names, want)
		w, roots := fiveKeys(t)
		w.wants(t, row.promise, row.call(roots["a"]))
		for i, x := range row.makes {
			if x.A > 0 && x.B < 0 {
				x.B = made[i+x.B]
			}
			if x.A > 0 && x.C < 0 {
				x.C = made[i+x.C]
			}
			w.wantNode(t, row.promise, made[i], x)
		}
	}
}

func TestPutBelowASpan(t *testing.T) {
	w := newTwin(t, 20)
	root := w.root(t, 20, 21, 23)
	a := w.wants(t, "P12.6: a new key below the span", put(2, 7, root))
	if a.Own != 7 || a.Ok || a.Ints[0] != 0 || len(a.Ints) != 3 {
		t.Fatalf("P12.6: %+v", a)
	}
	w.wantNode(t, "P12.6: a new key below the span", a.N, api.Node{A: inner(0, 4), B: a.Ints[1], C: root, D: 4})
	b := w.wants(t, "P12.6: a new key within the span of the root", put(22, 7, root))
	w.wantNode(t, "P12.6", b.N, api.Node{A: inner(20, 1), B: word(3, 1), C: b.Ints[3], D: 4})
}

func TestDropOfFew(t *testing.T) {
	for _, key := range edgeKeys {
		w := newTwin(t, 6)
		w.wantCall(t, "P12.7: no key", drop(key, 0), failed(api.ErrTrieNone), 1)
		root := w.root(t, key)
		w.wantCall(t, "P12.7: another key", drop(key^4, root), failed(api.ErrTrieNone), 1)
		w.wantCall(t, "P12.7: the only one", drop(key, root), had(10*key, 0, []int{root}, nil), 1)
		w.wantCall(t, "P12.7: the old root is as it was", find(key, root), found(10*key), 1)
		two := w.grow(t, root, key^4)
		w.wantCall(t, "P12.7: one of two", drop(key, two), had(10*key, word(2, 1), []int{root, two}, nil), 2)
		w.wantCall(t, "P12.7: the other one of two", drop(key^4, two), had(10*(key^4), root, []int{word(2, 1), two}, nil), 2)
		w.wantCall(t, "P12.7: none of two", drop(key^2, two), failed(api.ErrTrieNone), 2)
	}
}

// The root 0: one line, and nothing is read.
func TestNoRoot(t *testing.T) {
	w := newTwin(t, 2)
	none := failed(api.ErrTrieNone)
	for _, key := range edgeKeys {
		w.wantCall(t, "P12.4: root 0", find(key, 0), api.Answer{}, 1)
		w.wantCall(t, "P12.4: root 0", rank(key, 0), counted(0), 1)
		w.wantCall(t, "P12.5: root 0", after(key, 0), none, 1)
		w.wantCall(t, "P12.7: root 0", drop(key, 0), none, 1)
		w.wantCall(t, "P12.9: root 0", walk(key, key, 0), walked(), 1)
		w.wantCall(t, "P12.9: root 0", walk(0, key, 0), walked(), 1)
		w.wantCall(t, "P12.9: root 0", walk(key, 0, 0), walked(), 1)
	}
	for _, i := range []int{lowest, -1, 0, 1, highest} {
		w.wantCall(t, "P12.5: root 0", nth(i, 0), none, 1)
	}
	w.wantCall(t, "P12.4: root 0", count(0), counted(0), 1)
	w.wantCall(t, "P12.9: root 0", nodes(0), listed(), 1)
	w.wantCall(t, "P12.9: root 0", diff(0, 0), listed(), 1)
	w.wantCall(t, "P12.8: an empty list", undo(), api.Answer{}, 1)
	if !w.state().same(newModel(2).state()) {
		t.Errorf("P12.4: root 0: %+v", w.state())
	}
}

// linesOf counts the lines of what f does.
func linesOf(t *testing.T, f func(w *crew.Worker)) int {
	t.Helper()
	run, err := crew.Run(work([]api.Call{{}}), does(func(w *crew.Worker, _ api.Call) api.Answer {
		f(w)
		w.Step()
		return api.Answer{}
	}))
	if err != api.OK || run.Cut || run.Answers[0][0].Err != api.OK {
		t.Fatalf("%+v, %v", run, err)
	}
	return run.Steps - 1
}

// Where nothing is read or made the one line is the call's own.
func TestOneLineWithoutAnAccess(t *testing.T) {
	w := newTwin(t, 20)
	root := w.root(t, 3, 5)
	list := []api.Call{
		find(3, 0), rank(3, 0), after(3, 0), drop(3, 0), count(0), nth(0, 0), nodes(0), undo(), after(most, root), after(most, 77),
		find(-1, root), put(-1, 1, root), put(-1, 1, 0), drop(-1, root), rank(-1, root), after(-1, root), walk(-1, 5, root), walk(5, -1, root), walk(-1, 5, 0), walk(most+1, 5, root),
	}
	for _, c := range list {
		if n := linesOf(t, func(k *crew.Worker) { w.Do(k, c) }); n != 1 {
			t.Errorf("a line without an access: %+v: %d lines", c, n)
		}
	}
	if n := linesOf(t, func(k *crew.Worker) {
		for _, c := range list {
			w.Do(k, c)
		}
	}); n != len(list) {
		t.Errorf("lines without an access: %d of %d calls", n, len(list))
	}
}

// An iterator that reads nothing has no line; and it has none till it is gone through.
func TestIteratorsWithoutLines(t *testing.T) {
	w := newTwin(t, 20)
	root := w.root(t, 3, 5)
	through := func(k *crew.Worker, a, b int) {
		for c, err := range w.x.Diff(k, a, b) {
			t.Errorf("P12.9: Diff(%d, %d): %v, %v", a, b, c, err)
		}
	}
	for name, f := range map[string]func(k *crew.Worker){
		"Walk of root 0": func(k *crew.Worker) {
			for x, err := range w.x.Walk(k, 0, 0, most) {
				t.Errorf("P12.9: %v, %v", x, err)
			}
		},
		"Diff of 0 and 0":           func(k *crew.Worker) { through(k, 0, 0) },
		"Diff of a root and itself": func(k *crew.Worker) { through(k, root, root) },
		"Diff of no handle":         func(k *crew.Worker) { through(k, 77, 77) },
		"not gone through": func(k *crew.Worker) {
			if w.x.Walk(k, root, 0, most) == nil || w.x.Walk(k, root, -1, most) == nil || w.x.Walk(k, 77, 0, 0) == nil || w.x.Diff(k, root, 0) == nil || w.x.Diff(k, -1, 5) == nil {
				t.Error("rule 2: an iterator is nil")
			}
		},
	} {
		if n := linesOf(t, f); n != 0 {
			t.Errorf("P12.9: %s: %d lines", name, n)
		}
	}
}

func TestNoKey(t *testing.T) {
	w := newTwin(t, 20)
	root := w.root(t, 0, 5, most)
	gone := w.root(t, 3)
	w.wants(t, "P12.8", undo(gone))
	no := failed(api.ErrTrieKey)
	for _, key := range noKeys {
		for _, r := range []int{root, 0, gone, 5, -1, lowest, highest} {
			w.wantCall(t, "no key", find(key, r), no, 1)
			w.wantCall(t, "no key", put(key, 1, r), no, 1)
			w.wantCall(t, "no key", drop(key, r), no, 1)
			w.wantCall(t, "no key", rank(key, r), no, 1)
			w.wantCall(t, "no key", after(key, r), no, 1)
			w.wantCall(t, "no key", walk(key, 5, r), no, 1)
			w.wantCall(t, "no key", walk(5, key, r), no, 1)
			w.wantCall(t, "no key", walk(key, key, r), no, 1)
		}
	}
}

// What can't be a node of a trie; the leaf's handles in them are good ones.
func noNodes(leaf int) []api.Node {
	list := []api.Node{
		{A: -1, B: 5, C: 1, D: 1}, {A: lowest, B: 5, C: 1, D: 1}, {A: -64, B: leaf, C: leaf, D: 2}, {A: lowest + 1, B: leaf, C: leaf, D: 2}, {A: api.Poison, B: leaf, C: leaf, D: 2},
		{B: -1, C: 1, D: 1}, {B: most + 1, C: 1, D: 1}, {B: lowest, D: 1}, {B: highest, D: 1}, {B: 1 << 33, D: 1},
		{B: 5, C: 1}, {B: 5, C: 1, D: 2}, {B: 5, C: 1, D: -1}, {B: 5, C: 1, D: lowest}, {B: 5, C: 1, D: highest}, {B: 5, D: 1<<32 + 1}, {},
	}
	for _, a := range []int{
		inner(0, 32), inner(0, 33), inner(0, 62), inner(0, 63), inner(1<<31, 32), inner(4, 63), inner(most, 40),
		inner(1, 0), inner(2, 1), inner(3, 1), inner(1, 1), inner(5, 1), inner(5, 0), inner(6, 1), inner(4, 2), inner(1, 31), inner(1<<31, 31), inner(1<<30, 30), inner(1<<30, 31), inner(most, 0), inner(most-1, 1),
		inner(most+1, 0), inner(1<<32, 31), inner(1<<32, 5), inner(1<<33, 0), inner(1<<40, 3), inner(1<<50, 31), highest, highest - 1, highest - 63,
	} {
		list = append(list, api.Node{A: a, B: leaf, C: leaf, D: 2})
	}
	return list
}

// calls: all that read a root, with a key.
func calls(key, r, other int) []api.Call {
	return []api.Call{
		find(key, r), put(key, 1, r), drop(key, r), count(r), rank(key, r), nth(0, r), after(key, r), walk(0, most, r), walk(key, key, r), walk(most, 0, r),
		diff(r, 0), diff(0, r), diff(r, other), nodes(r),
	}
}

func TestNoNodeAsARoot(t *testing.T) {
	for i := range noNodes(0) {
		w := newTwin(t, 30)
		five := w.root(t, 5)
		other := w.root(t, 1, 9)
		h := w.node(t, noNodes(five)[i])
		was := w.state()
		for _, key := range []int{0, 5, most - 1} {
			for _, c := range calls(key, h, other) {
				w.wantCall(t, "P12.2: a root that can't be", c, failed(api.ErrTrieRoot), 1)
			}
		}
		w.wantCall(t, "P12.2: b's root can't be", diff(other, h), failed(api.ErrTrieRoot), 2)
		if !w.state().same(was) {
			t.Fatalf("P12.2: %+v, was %+v", w.state(), was)
		}
	}
}

// lowerCalls read the lower node of an inner one of 0-15 in their second line.
func lowerCalls(r int) []api.Call {
	return []api.Call{
		find(5, r), put(5, 1, r), drop(5, r), rank(5, r), nth(0, r), after(4, r), walk(0, most, r), walk(5, 5, r), diff(r, 0), diff(0, r), nodes(r),
	}
}

// upperCalls read the upper one; nothing of the lower one is read by them.
func upperCalls(r int) []api.Call {
	return []api.Call{find(12, r), put(12, 1, r), drop(12, r), rank(12, r), after(11, r), after(7, r), walk(8, most, r), walk(12, 12, r)}
}

func TestNoNodeAsAChild(t *testing.T) {
	for i := range noNodes(0) {
		w := newTwin(t, 30)
		five, twelve := w.root(t, 5), w.root(t, 12)
		other := w.root(t, 1, 9)
		bad := w.node(t, noNodes(five)[i])
		lower := w.node(t, api.Node{A: inner(0, 3), B: bad, C: twelve, D: 2})
		upper := w.node(t, api.Node{A: inner(0, 3), B: five, C: bad, D: 2})
		for _, c := range lowerCalls(lower) {
			w.wantCall(t, "P12.2: a lower node that can't be", c, failed(api.ErrTrieRoot), 2)
		}
		for _, c := range upperCalls(upper) {
			w.wantCall(t, "P12.2: an upper node that can't be", c, failed(api.ErrTrieRoot), 2)
		}
		w.wantCall(t, "P12.2: a lower node that can't be", diff(lower, other), failed(api.ErrTrieRoot), 3)
		w.wantCall(t, "P12.2: a lower node that can't be", diff(other, lower), failed(api.ErrTrieRoot), 4)
		w.wantCall(t, "P12.2: an upper node that can't be", nth(1, upper), failed(api.ErrTrieRoot), 3)
		w.wantCall(t, "P12.2: an upper node that can't be", nodes(upper), failed(api.ErrTrieRoot), 3)
		given := walked(ten(5)...)
		given.Err = api.ErrTrieRoot
		w.wantCall(t, "P12.9: an error as the last thing", walk(0, most, upper), given, 3)
		changed := listed(5, 1, 50, 0, 0)
		changed.Err = api.ErrTrieRoot
		w.wantCall(t, "P12.9: an error as the last thing", diff(upper, 0), changed, 3)
		// Where it isn't come to, nothing is told of it.
		w.wantCall(t, "P12.2: not read", find(12, lower), found(120), 2)
		w.wantCall(t, "P12.2: not read", find(5, upper), found(50), 2)
		w.wantCall(t, "P12.2: not read", walk(8, 15, lower), walked(ten(12)...), 2)
		w.wantCall(t, "P12.2: not read", left(walk(0, most, upper), 1), walked(ten(5)...), 2)
		w.wantCall(t, "P12.7: the other node isn't read", drop(12, lower), had(120, bad, []int{twelve, lower}, nil), 2)
		w.wantCall(t, "P12.7: the other node isn't read", drop(5, upper), had(50, bad, []int{five, upper}, nil), 2)
	}
}

// A child's span must be within its half: what lies beyond it by one, and what just fills it.
func TestChildrenBeyondTheirHalves(t *testing.T) {
	type row struct {
		x    api.Node
		good bool
	}
	leafRow := func(key int, good bool) row { return row{api.Node{B: key, C: 10 * key, D: 1}, good} }
	for _, where := range []struct {
		lower bool
		rows  []row
	}{
		{true, []row{leafRow(32, true), leafRow(39, true), leafRow(31, false), leafRow(40, false), leafRow(47, false), leafRow(0, false), leafRow(most, false),
			{api.Node{A: inner(32, 2)}, true}, {api.Node{A: inner(32, 0)}, true}, {api.Node{A: inner(38, 0)}, true}, {api.Node{A: inner(32, 3)}, false}, {api.Node{A: inner(40, 2)}, false}, {api.Node{A: inner(24, 2)}, false}, {api.Node{A: inner(0, 31)}, false}, {api.Node{A: inner(40, 0)}, false}, {api.Node{A: inner(30, 0)}, false}}},
		{false, []row{leafRow(40, true), leafRow(47, true), leafRow(39, false), leafRow(48, false), leafRow(32, false), leafRow(0, false), leafRow(most, false),
			{api.Node{A: inner(40, 2)}, true}, {api.Node{A: inner(40, 0)}, true}, {api.Node{A: inner(46, 0)}, true}, {api.Node{A: inner(32, 3)}, false}, {api.Node{A: inner(32, 2)}, false}, {api.Node{A: inner(48, 2)}, false}, {api.Node{A: inner(0, 31)}, false}, {api.Node{A: inner(38, 0)}, false}, {api.Node{A: inner(48, 0)}, false}}},
	} {
		for _, r := range where.rows {
			w := newTwin(t, 30)
			l, u := w.root(t, 33), w.root(t, 44)
			if r.x.A > 0 {
				r.x.B, r.x.C, r.x.D = 5, 5, 2
			}
			child := w.node(t, r.x)
			x := api.Node{A: inner(32, 3), B: child, C: u, D: 2}
			if !where.lower {
				x.B, x.C = l, child
			}
			root := w.node(t, x)
			for _, key := range []int{32, 36, 39, 40, 43, 47} {
				a := w.wants(t, "P12.2: a child's span", find(key, root))
				if in := key < 40 == where.lower; in && (a.Err == api.ErrTrieRoot) != !r.good || !in && a.Err != api.OK {
					t.Fatalf("P12.2: %+v in the half that is lower %t: Find(%d): %+v", r.x, where.lower, key, a)
				}
				for _, c := range calls(key, root, l) {
					w.wants(t, "P12.2: a child's span", c)
				}
			}
		}
	}
}

// pool's errors are answered as they are, and nothing further is done.
func TestPoolErrors(t *testing.T) {
	w := newTwin(t, 60)
	gone, other := w.root(t, 3), w.root(t, 1, 9)
	w.wants(t, "P12.8", undo(gone))
	faults := 0
	for _, h := range append(noHandles(60), gone, word(60, 1), word(1, 5)) {
		want := api.ErrPoolHandle
		if h == gone || h == word(60, 1) || h == word(1, 5) {
			want = api.ErrPoolGone
		}
		for _, c := range append(calls(3, h, other), after(0, h), nth(-1, h)) {
			w.wantCall(t, "P12.2: pool's error of the root", c, failed(want), 1)
			if want == api.ErrPoolGone {
				faults++
			}
		}
		w.wantCall(t, "P12.2: pool's error of b's root", diff(other, h), failed(want), 2)
		if want == api.ErrPoolGone {
			faults++
		}
	}
	if got := w.p.Faults(); got != faults {
		t.Errorf("P12.2: %d faults, want %d", got, faults)
	}
	for _, h := range append(noHandles(60), 0, gone) {
		want := api.ErrPoolHandle
		if h == gone {
			want = api.ErrPoolGone
		}
		w := newTwin(t, 60)
		w.wants(t, "P12.8", undo(w.root(t, 3)))
		w.root(t, 30)
		five, twelve := w.root(t, 5), w.root(t, 12)
		lower := w.node(t, api.Node{A: inner(0, 3), B: h, C: twelve, D: 2})
		upper := w.node(t, api.Node{A: inner(0, 3), B: five, C: h, D: 2})
		for _, c := range slices.Concat(lowerCalls(lower), upperCalls(upper)) {
			w.wantCall(t, "P12.2: pool's error of a child", c, failed(want), 2)
		}
	}
}

// What isn't looked at: counts that are wrong, links and marks, children that aren't come to.
func TestWhatIsNotLookedAt(t *testing.T) {
	for _, n := range []int{lowest, -1, 0, 1, 2, 3, 77, highest} {
		w := newTwin(t, 40)
		five, twelve := w.root(t, 5), w.root(t, 12)
		root := w.node(t, api.Node{A: inner(0, 3), B: five, C: twelve, D: n})
		top := w.node(t, api.Node{A: inner(0, 4), B: root, C: 0, D: n})
		w.wantCall(t, "P12.2: a wrong count", count(root), counted(n), 1)
		w.wantCall(t, "P12.2: a wrong count", find(12, root), found(120), 2)
		w.wantCall(t, "P12.4: by counts", rank(13, root), counted(n-1+1), 2)
		w.wantCall(t, "P12.4: by counts", rank(16, root), counted(n), 1)
		w.wantCall(t, "P12.4: by counts", rank(5, root), counted(0), 2)
		w.wantCall(t, "P12.9: a wrong count", walk(0, most, root), walked(ten(5, 12)...), 3)
		w.wantCall(t, "P12.9: a wrong count", nodes(root), listed(root, five, twelve), 3)
		for _, i := range []int{lowest, -1, 0, 1, 2, 5, 76, 77, highest - 1} {
			want, lines := failed(api.ErrTrieNone), 1
			if i >= 0 && i < n {
				want, lines = paired(12, 120), 3
			}
			if i == 0 && n > 0 {
				want, lines = paired(5, 50), 2
			}
			w.wantCall(t, "P12.5: by counts", nth(i, root), want, lines)
			w.wants(t, "P12.5: by counts", nth(i, top))
		}
		a := w.wants(t, "P12.6: a wrong count", put(6, 60, root))
		w.wantNode(t, "P12.6: one more", a.N, api.Node{A: inner(0, 3), B: a.Ints[3], C: twelve, D: n + 1})
		a = w.wants(t, "P12.6: a wrong count", put(5, 51, root))
		w.wantNode(t, "P12.6: as many", a.N, api.Node{A: inner(0, 3), B: a.Ints[3], C: twelve, D: n})
		a = w.wants(t, "P12.6: beside a wrong count", put(16, 1, root))
		w.wantNode(t, "P12.6: one more", a.N, api.Node{A: inner(0, 4), B: root, C: a.Ints[1], D: n + 1})
		a = w.wants(t, "P12.7: a wrong count", drop(5, top))
		w.wantNode(t, "P12.7: one less", a.N, api.Node{A: inner(0, 4), B: twelve, C: 0, D: n - 1})
		a = w.wants(t, "P12.7: the other one is 0", drop(12, w.node(t, api.Node{A: inner(0, 3), B: 0, C: twelve, D: n})))
		if a.N != 0 || a.Err != api.OK || len(a.Ints) != 3 {
			t.Fatalf("P12.7: %+v", a)
		}
	}
}

// A child 0, which no trie makes: beside another node it is without keys; where it is to be read it is pool's error.
func TestChildrenThatAreNull(t *testing.T) {
	w := newTwin(t, 60)
	five, twelve := w.root(t, 5), w.root(t, 12)
	both := w.node(t, api.Node{A: inner(0, 3), B: five, C: twelve, D: 2})
	lower := w.node(t, api.Node{A: inner(0, 3), B: five, C: 0, D: 1})
	upper := w.node(t, api.Node{A: inner(0, 3), B: 0, C: twelve, D: 1})
	none := w.node(t, api.Node{A: inner(0, 3)})
	broken := func(ints ...int) api.Answer {
		a := listed(ints...)
		a.Err = api.ErrPoolHandle
		return a
	}
	w.wantCall(t, "P12.9: a child 0", diff(both, lower), listed(12, 1, 120, 0, 0), 3)
	w.wantCall(t, "P12.9: a child 0", diff(lower, both), listed(12, 0, 0, 1, 120), 3)
	w.wantCall(t, "P12.9: a child 0", diff(upper, both), listed(5, 0, 0, 1, 50), 3)
	w.wantCall(t, "P12.9: a child 0", diff(lower, upper), listed(5, 1, 50, 0, 0, 12, 0, 0, 1, 120), 4)
	w.wantCall(t, "P12.9: a child 0", diff(upper, lower), listed(5, 0, 0, 1, 50, 12, 1, 120, 0, 0), 4)
	w.wantCall(t, "P12.9: children 0", diff(none, both), listed(5, 0, 0, 1, 50, 12, 0, 0, 1, 120), 4)
	w.wantCall(t, "P12.9: children 0", diff(both, none), listed(5, 1, 50, 0, 0, 12, 1, 120, 0, 0), 4)
	w.wantCall(t, "P12.9: both 0", diff(none, w.node(t, api.Node{A: inner(0, 3), D: 9})), listed(), 2)
	// A leaf that stands beside a child 0 was read already.
	w.wantCall(t, "P12.9: beside a child 0", diff(five, upper), listed(5, 1, 50, 0, 0, 12, 0, 0, 1, 120), 3)
	w.wantCall(t, "P12.9: beside a child 0", diff(upper, five), listed(5, 0, 0, 1, 50, 12, 1, 120, 0, 0), 3)
	w.wantCall(t, "P12.9: beside a child 0, the other one is to be read", diff(five, none), broken(5, 1, 50, 0, 0), 3)
	w.wantCall(t, "P12.9: beside a child 0, the other one is to be read", diff(none, five), broken(5, 0, 0, 1, 50), 3)
	w.wantCall(t, "P12.9: one handle, the other half is to be read", diff(five, lower), broken(), 3)
	w.wantCall(t, "P12.9: one handle, the other half is to be read", diff(lower, five), broken(), 3)
	w.wantCall(t, "P12.9: the lower half is to be read first", diff(twelve, none), broken(), 3)
	w.wantCall(t, "P12.9: by Walk's way", diff(0, lower), broken(5, 0, 0, 1, 50), 3)
	w.wantCall(t, "P12.9: by Walk's way", diff(lower, 0), broken(5, 1, 50, 0, 0), 3)
	w.wantCall(t, "P12.9: by Walk's way", diff(0, upper), broken(), 2)
	w.wantCall(t, "P12.9: Walk", walk(0, most, upper), failed(api.ErrPoolHandle), 2)
	given := walked(ten(5)...)
	given.Err = api.ErrPoolHandle
	w.wantCall(t, "P12.9: Walk", walk(0, most, lower), given, 3)
	w.wantCall(t, "P12.9: Walk of the other half", walk(0, 7, lower), walked(ten(5)...), 2)
	w.wantCall(t, "P12.9: Nodes", nodes(lower), failed(api.ErrPoolHandle), 3)
	w.wantCall(t, "P12.4: Find", find(12, lower), failed(api.ErrPoolHandle), 2)
}

// diffs: roots by letters: b is a with another value of 5, c without 12 and with 6, d shares nothing with a, e lies above all, f is a leaf of a's key 5.
func diffs(t *testing.T) (twin, map[string]int) {
	w := newTwin(t, 200)
	r := map[string]int{"a": w.root(t, 1, 4, 5, 7, 12)}
	r["b"] = w.wants(t, "P12.6", put(5, 99, r["a"])).N
	r["c"] = w.grow(t, w.wants(t, "P12.7", drop(12, r["a"])).N, 6)
	r["d"] = w.root(t, 4, 5)
	r["e"] = w.root(t, 32, 35)
	r["f"] = w.wants(t, "P12.6", put(5, 55, 0)).N
	r["g"] = w.root(t, 12)
	r["h"] = w.root(t, 8, 9)
	return w, r
}

func TestDiffReads(t *testing.T) {
	gone := func(keys ...int) (list []int) {
		for _, key := range keys {
			list = append(list, key, 1, 10*key, 0, 0)
		}
		return list
	}
	came := func(keys ...int) (list []int) {
		for _, key := range keys {
			list = append(list, key, 0, 0, 1, 10*key)
		}
		return list
	}
	for _, row := range []struct {
		promise, a, b, names string
		want                 [][]int
	}{
		{"one span, all the way down", "a", "b", "a0-15 b0-15 a0-7 b0-7 a4-7 b4-7 a4-5 b4-5 a5 b5", [][]int{{5, 1, 50, 1, 99}}},
		{"one span, all the way down", "b", "a", "b0-15 a0-15 b0-7 a0-7 b4-7 a4-7 b4-5 a4-5 b5 a5", [][]int{{5, 1, 99, 1, 50}}},
		{"within the lower half", "a", "c", "a0-15 c0-7 a0-7 a4-7 c4-7 a7 c6-7 c6 a12", [][]int{came(6), gone(12)}},
		{"within the lower half", "c", "a", "c0-7 a0-15 a0-7 c4-7 a4-7 c6-7 a7 c6 a12", [][]int{gone(6), came(12)}},
		{"within, two halves down, sharing nothing", "a", "d", "a0-15 d4-5 a0-7 a1 a4-7 a4-5 a4 d4 a5 d5 a7 a12", [][]int{gone(1), gone(7), gone(12)}},
		{"within, two halves down, sharing nothing", "d", "a", "d4-5 a0-15 a0-7 a1 a4-7 a4-5 d4 a4 d5 a5 a7 a12", [][]int{came(1), came(7), came(12)}},
		{"apart", "a", "e", "a0-15 e32-35 a0-7 a1 a4-7 a4-5 a4 a5 a7 a12 e32 e35", [][]int{gone(1, 4, 5, 7, 12), came(32, 35)}},
		{"apart, b is the lower one", "e", "a", "e32-35 a0-15 a0-7 a1 a4-7 a4-5 a4 a5 a7 a12 e32 e35", [][]int{came(1, 4, 5, 7, 12), gone(32, 35)}},
		{"a leaf within", "a", "f", "a0-15 f5 a0-7 a1 a4-7 a4-5 a4 a5 a7 a12", [][]int{gone(1, 4), {5, 1, 50, 1, 55}, gone(7, 12)}},
		{"a leaf within", "f", "a", "f5 a0-15 a0-7 a1 a4-7 a4-5 a4 a5 a7 a12", [][]int{came(1, 4), {5, 1, 55, 1, 50}, came(7, 12)}},
		{"a leaf in the upper half", "a", "g", "a0-15 g12 a0-7 a1 a4-7 a4-5 a4 a5 a7 a12", [][]int{gone(1, 4, 5, 7)}},
		{"a leaf in the upper half", "g", "a", "g12 a0-15 a0-7 a1 a4-7 a4-5 a4 a5 a7 a12", [][]int{came(1, 4, 5, 7)}},
		{"an inner one in the upper half", "a", "h", "a0-15 h8-9 a0-7 a1 a4-7 a4-5 a4 a5 a7 a12 h8 h9", [][]int{gone(1, 4, 5, 7), came(8, 9), gone(12)}},
		{"two leaves apart", "f", "g", "f5 g12", [][]int{{5, 1, 55, 0, 0}, came(12)}},
		{"two leaves apart", "g", "f", "g12 f5", [][]int{{5, 0, 0, 1, 55}, gone(12)}},
		{"a leaf apart from an inner one", "f", "h", "f5 h8-9 h8 h9", [][]int{{5, 1, 55, 0, 0}, came(8, 9)}},
		{"a leaf apart from an inner one", "h", "g", "h8-9 g12 h8 h9", [][]int{gone(8, 9), came(12)}},
		{"the same", "a", "a", "", nil},
	} {
		call := func(roots map[string]int) api.Call { return diff(roots[row.a], roots[row.b]) }
		wantReads(t, "P12.9: Diff: "+row.promise, diffs, call, row.names, listed(slices.Concat(row.want...)...))
	}
	early := func(a, b string, n int) func(roots map[string]int) api.Call {
		return func(roots map[string]int) api.Call { return left(diff(roots[a], roots[b]), n) }
	}
	wantReads(t, "P12.9: left early", diffs, early("a", "c", 1), "a0-15 c0-7 a0-7 a4-7 c4-7 a7 c6-7 c6", listed(came(6)...))
	wantReads(t, "P12.9: left early", diffs, early("e", "a", 2), "e32-35 a0-15 a0-7 a1 a4-7 a4-5 a4", listed(came(1, 4)...))
	wantReads(t, "P12.9: left early", diffs, early("f", "g", 1), "f5 g12", listed(5, 1, 55, 0, 0))
	wantReads(t, "P12.9: left early", diffs, early("b", "a", 1), "b0-15 a0-15 b0-7 a0-7 b4-7 a4-7 b4-5 a4-5 b5 a5", listed(5, 1, 99, 1, 50))
}

// Two leaves of one key, by other handles.
func TestDiffOfTwoLeaves(t *testing.T) {
	for _, key := range edgeKeys {
		for _, x := range edgeValues {
			for _, y := range edgeValues {
				w := newTwin(t, 3)
				a, b := w.wants(t, "P12.6", put(key, x, 0)).N, w.wants(t, "P12.6", put(key, y, 0)).N
				want := listed(key, 1, x, 1, y)
				if x == y {
					want = listed()
				}
				w.wantCall(t, "P12.9: two leaves of one key", diff(a, b), want, 2)
			}
		}
	}
}

// fill takes slots, till so many are free.
func (w twin) fill(t *testing.T, free int) {
	t.Helper()
	for len(w.p.Free()) > free {
		w.node(t, api.Node{A: -5})
	}
}

// A pool that is full at each of the nodes that are made: what was made goes back, the last one first.
func TestFull(t *testing.T) {
	for _, row := range []struct {
		call         func(r int) api.Call
		reads, makes int
	}{
		{func(r int) api.Call { return put(5, 51, r) }, 5, 5},
		{func(r int) api.Call { return put(3, 30, r) }, 3, 4},
		{func(r int) api.Call { return put(8, 80, r) }, 2, 3},
		{func(r int) api.Call { return put(most, 1, r) }, 1, 2},
		{func(r int) api.Call { return put(2, 1, 0) }, 0, 1},
		{func(r int) api.Call { return drop(5, r) }, 5, 3},
		{func(r int) api.Call { return drop(1, r) }, 3, 1},
	} {
		for free := range row.makes {
			w, roots := fiveKeys(t)
			w.fill(t, free)
			was := w.state()
			w.wantCall(t, "P12.8: full", row.call(roots["a"]), failed(api.ErrPoolFull), row.reads+3*free+1+4*free)
			now := w.state()
			if !slices.Equal(now.free, was.free) {
				t.Fatalf("P12.8: free %v, was %v", now.free, was.free)
			}
			for _, i := range was.free {
				if s := now.slots[i-1]; s.Gen != was.slots[i-1].Gen+2 || s.Node.A != api.Poison {
					t.Fatalf("P12.8: slot %d was not given back: %+v", i, s)
				}
				now.slots[i-1] = was.slots[i-1]
			}
			if !now.same(was) {
				t.Fatalf("P12.8: %+v, was %+v", now, was)
			}
			w.wantCall(t, "P12.8: the root is as it was", walk(0, most, roots["a"]), walked(ten(1, 4, 5, 7, 12)...), 9)
		}
		w, roots := fiveKeys(t)
		w.fill(t, row.makes)
		if a := w.wants(t, "P12.8: just enough", row.call(roots["a"])); a.Err != api.OK || len(w.p.Free()) != 0 {
			t.Fatalf("P12.8: %+v", a)
		}
	}
	w, roots := fiveKeys(t)
	w.fill(t, 0)
	w.wantCall(t, "P12.6: nothing is made", put(5, 50, roots["a"]), had(50, roots["a"], nil, nil), 5)
	w.wantCall(t, "P12.7: nothing is made", drop(12, roots["a"]), api.Answer{Ok: true, M: 120, N: w.by(t, nodes(roots["a"])).Ints[1], Ints: []int{2, w.by(t, nodes(roots["a"])).Ints[8], roots["a"]}}, 2)
	w.wantCall(t, "P12.7: none is made ahead of the error", drop(77, roots["a"]), failed(api.ErrTrieNone), 1)
	w.wantCall(t, "P12.6: no key is told first", put(-1, 50, roots["a"]), failed(api.ErrTrieKey), 1)
	w.wantCall(t, "P12.6: a root that can't be is told first", put(5, 50, 7), failed(api.ErrPoolHandle), 1)
}

// All that a Put made goes back, also if somebody gave one of it back meanwhile.
func TestFullAndMeddled(t *testing.T) {
	for _, meddled := range []int{0, 1, 2} {
		w, roots := fiveKeys(t)
		w.fill(t, 3)
		free := w.p.Free()
		c := work([]api.Call{put(5, 51, roots["a"])}, []api.Call{give(word(free[meddled], 1))})
		c.Turns = append(make([]int, 5+9+1), 1, 1, 1, 1, 0)
		run, err := crew.Run(c, w.both)
		want := w.m.run(c, false)
		if err != api.OK || !sameRun(run, want) || !w.state().same(w.m.state()) || run.Answers[0][0].Err != api.ErrPoolFull || run.Answers[1][0].Err != api.OK {
			t.Fatalf("P12.8: %+v, want %+v", run, want)
		}
		if now := w.p.Free(); len(now) != 3 {
			t.Errorf("P12.8: free %v, was %v", now, free)
		}
	}
}

func TestUndo(t *testing.T) {
	w := newTwin(t, 8)
	var h []int
	for i := range 6 {
		h = append(h, w.node(t, api.Node{A: i}))
	}
	ok := api.Answer{}
	w.wantCall(t, "P12.8: the last one first", undo(h[0], h[1], h[2]), ok, 12)
	if free := w.p.Free(); !slices.Equal(free, []int{1, 2, 3, 7, 8}) {
		t.Errorf("P12.8: free %v", free)
	}
	w.wantCall(t, "P12.8: gone", undo(h[0]), failed(api.ErrPoolGone), 1)
	w.wantCall(t, "P12.8: the first error ends it", undo(h[3], h[1], h[4]), failed(api.ErrPoolGone), 5)
	w.wantCall(t, "P12.8: behind it", undo(h[3], 0, h[5]), failed(api.ErrPoolHandle), 5)
	w.wantCall(t, "P12.8: twice the same", undo(h[3], h[3]), failed(api.ErrPoolGone), 5)
	if free := w.p.Free(); len(free) != 8 || w.p.Faults() != 0 {
		t.Errorf("P12.8: free %v, %d faults", free, w.p.Faults())
	}
	for _, n := range append(noHandles(8), 0) {
		w.wantCall(t, "P12.8: no handle", undo(n), failed(api.ErrPoolHandle), 1)
	}
	if w.x.Undo(nil, nil) != api.OK || w.x.Undo(nil, []int{}) != api.OK {
		t.Error("P12.8: an empty list")
	}
}

// keysOf tells the keys of a set of bits, by a table.
func keysOf(set int, table []int) []int {
	var list []int
	for i, key := range table {
		if set>>i&1 == 1 {
			list = append(list, key)
		}
	}
	slices.Sort(list)
	return list
}

// probes: keys below, at, between and above some.
func probes(keys []int) []int {
	list := slices.Clone(edgeKeys)
	for _, key := range keys {
		list = append(list, max(key-1, 0), key, min(key+1, most))
	}
	slices.Sort(list)
	return slices.Compact(list)
}

// Find, Count, Rank, Select, Next, Walk and Nodes of every set of some keys, against sorted lists.
func TestEverySet(t *testing.T) {
	for _, table := range [][]int{{0, 1, 2, 3, 4, 6, 7}, {0, 5, 1 << 16, 1 << 31, 1<<31 + 5, most - 1, most}} {
		for set := range 1 << len(table) {
			keys := keysOf(set, table)
			w := newTwin(t, 80)
			root := w.root(t, keys...)
			w.wantSorted(t, root, keys, ten(keys...))
		}
	}
}

// wantSorted: a root tells just these pairs.
func (w twin) wantSorted(t *testing.T, root int, keys []int, pairs []api.Pair) {
	t.Helper()
	tell := func(promise string, c api.Call, want api.Answer) {
		t.Helper()
		if a := w.wants(t, promise, c); !sameAnswer(a, want) {
			t.Fatalf("%s: keys %v: %+v: %+v, want %+v", promise, keys, c, a, want)
		}
	}
	tell("P12.4", count(root), counted(len(keys)))
	for _, key := range probes(keys) {
		i, has := slices.BinarySearch(keys, key)
		next, want := i, api.Answer{}
		if has {
			next, want = i+1, found(pairs[i].Value)
		}
		tell("P12.4", find(key, root), want)
		tell("P12.4", rank(key, root), counted(i))
		want = failed(api.ErrTrieNone)
		if next < len(keys) {
			want = paired(pairs[next].Key, pairs[next].Value)
		}
		tell("P12.5", after(key, root), want)
	}
	for i := -2; i < len(keys)+2; i++ {
		want := failed(api.ErrTrieNone)
		if i >= 0 && i < len(keys) {
			want = paired(pairs[i].Key, pairs[i].Value)
		}
		tell("P12.5", nth(i, root), want)
	}
	tell("P12.9", walk(0, most, root), walked(pairs...))
	if list := w.wants(t, "P12.9", nodes(root)).Ints; len(list) != max(0, 2*len(keys)-1) {
		t.Fatalf("P12.12: %d nodes of %d keys", len(list), len(keys))
	}
}

func TestWalkOfEveryRange(t *testing.T) {
	table := []int{0, 1, 3, 4, 6, 9, 11, 12, 15}
	for _, set := range []int{0, 1, 1 << 4, 1 << 8, 3, 1<<8 | 1, 0b101010101, 0b110110, 1<<9 - 1} {
		keys := keysOf(set, table)
		w := newTwin(t, 80)
		root := w.root(t, keys...)
		for lo := range 18 {
			for hi := range 18 {
				var want []int
				for _, key := range keys {
					if lo <= key && key <= hi {
						want = append(want, key)
					}
				}
				if a := w.wants(t, "P12.9", walk(lo, hi, root)); !sameAnswer(a, walked(ten(want...)...)) {
					t.Fatalf("P12.9: keys %v: Walk(%d, %d): %+v", keys, lo, hi, a)
				}
				for n := 1; n <= len(want); n++ {
					if a := w.wants(t, "P12.9: left early", left(walk(lo, hi, root), n)); !sameAnswer(a, walked(ten(want[:n]...)...)) {
						t.Fatalf("P12.9: keys %v: Walk(%d, %d), left behind %d: %+v", keys, lo, hi, n, a)
					}
				}
			}
		}
	}
}

// A walk that is asked for again, within itself, and ahead of a change.
func TestIteratorsAgain(t *testing.T) {
	w := newTwin(t, 80)
	a := w.root(t, 1, 4, 5, 7, 12)
	it := w.x.Walk(nil, a, 4, 12)
	b := w.wants(t, "P12.7", drop(5, a)).N
	dt := w.x.Diff(nil, a, b)
	w.grow(t, b, 9, 10, 11)
	var got, changes []int
	for range 2 {
		for x := range it {
			got = append(got, x.Key)
			for y, err := range it {
				if got = append(got, y.Key); err != api.OK || y.Key == 5 {
					break
				}
			}
		}
		for c := range dt {
			changes = append(changes, c.Key)
			for d := range dt {
				changes = append(changes, -d.Key)
			}
		}
	}
	once := []int{4, 4, 5, 5, 4, 5, 7, 4, 5, 12, 4, 5}
	if !slices.Equal(got, append(slices.Clone(once), once...)) || !slices.Equal(changes, []int{5, -5, 5, -5}) {
		t.Errorf("rule 7: %v, %v", got, changes)
	}
	// What is there when it is gone through: a node that was given back is told then.
	w.wants(t, "P12.8", give(w.by(t, nodes(a)).Ints[6]))
	var keys []int
	var last api.Errno
	for x, err := range it {
		keys, last = append(keys, x.Key), err
	}
	if !slices.Equal(keys, []int{4, 0}) || last != api.ErrPoolGone {
		t.Errorf("rule 7: %v, %v", keys, last)
	}
	count := 0
	for c, err := range dt {
		if count++; err != api.ErrPoolGone || c != (api.Change{}) {
			t.Errorf("rule 7: Diff: %+v, %v", c, err)
		}
	}
	if count != 1 {
		t.Errorf("rule 7: Diff gave %d", count)
	}
}

// An iterator that is called by hand gives nothing behind a false.
func TestIteratorsEnd(t *testing.T) {
	w := newTwin(t, 80)
	a, b := w.root(t, 1, 4, 5, 7, 12), w.root(t, 2, 4, 6, 40)
	bad := w.node(t, api.Node{A: inner(0, 3), B: w.root(t, 3), C: 0, D: 2})
	for n := 1; n <= 9; n++ {
		for _, it := range []func(f func() bool){
			func(f func() bool) { w.x.Walk(nil, a, 0, most)(func(api.Pair, api.Errno) bool { return f() }) },
			func(f func() bool) { w.x.Walk(nil, bad, 0, most)(func(api.Pair, api.Errno) bool { return f() }) },
			func(f func() bool) { w.x.Walk(nil, a, 0, -1)(func(api.Pair, api.Errno) bool { return f() }) },
			func(f func() bool) { w.x.Diff(nil, a, b)(func(api.Change, api.Errno) bool { return f() }) },
			func(f func() bool) { w.x.Diff(nil, b, a)(func(api.Change, api.Errno) bool { return f() }) },
			func(f func() bool) { w.x.Diff(nil, 0, a)(func(api.Change, api.Errno) bool { return f() }) },
			func(f func() bool) { w.x.Diff(nil, bad, b)(func(api.Change, api.Errno) bool { return f() }) },
			func(f func() bool) { w.x.Diff(nil, b, bad)(func(api.Change, api.Errno) bool { return f() }) },
		} {
			asked, over := 0, false
			it(func() bool {
				if over {
					t.Fatal("rule 7: an iterator goes on behind a false")
				}
				asked++
				over = asked >= n
				return !over
			})
		}
	}
}

// Diff of every pair of sets of some keys, with values of which some are alike.
func TestDiffOfEveryPair(t *testing.T) {
	table := []int{0, 1, 4, 6, 1 << 31}
	w := newTwin(t, 300)
	var roots [][2]int
	var maps []map[int]int
	for set := range 1 << len(table) {
		var both [2]int
		for v := range both {
			is := map[int]int{}
			for i, key := range keysOf(set, table) {
				is[key] = key + v*(i%2)
				a := w.wants(t, "P12.6", put(key, is[key], both[v]))
				w.wants(t, "P12.8", undo(a.Ints[1:1+a.Ints[0]]...))
				both[v] = a.N
			}
			maps = append(maps, is)
		}
		roots = append(roots, both)
	}
	for i, a := range maps {
		for j, b := range maps {
			var want []int
			for _, key := range table {
				old, had := a[key]
				now, has := b[key]
				if had != has || old != now {
					is := map[bool]int{true: 1}
					want = append(want, key, is[had], old, is[has], now)
				}
			}
			x, y := roots[i/2][i%2], roots[j/2][j%2]
			if got := w.wants(t, "P12.9", diff(x, y)); !sameAnswer(got, listed(want...)) {
				t.Fatalf("P12.9: Diff of %v and %v: %+v, want %v", a, b, got, want)
			}
		}
	}
}

// writeOver writes over a list and the spare room behind it.
func writeOver(list []int) {
	all := list[:cap(list)]
	for i := range all {
		all[i] = -99
	}
}

func TestAnswersAreNewMemory(t *testing.T) {
	r := mixer(7)
	w := newTwin(t, 900)
	root := 0
	for range 200 {
		key := r.one(fewKeys)
		c := put(key, r.below(3), root)
		e, err := w.x.Put(nil, root, key, c.B)
		if r.below(3) == 0 {
			if err == api.OK {
				w.m.alone(c)
				w.wants(t, "P12.8", undo(e.Made...))
			}
			c = drop(key, root)
			e, err = w.x.Drop(nil, root, key)
		}
		if a := editAnswer(e, err); !sameAnswer(a, w.m.alone(c)) {
			t.Fatalf("P12.6, P12.7: %+v", a)
		}
		gone, made := slices.Clone(e.Gone), slices.Clone(e.Made)
		writeOver(e.Gone)
		if !slices.Equal(e.Made, made) {
			t.Fatalf("rule 3: Made %v hangs on Gone, was %v", e.Made, made)
		}
		e.Gone = gone
		writeOver(e.Made)
		if !slices.Equal(e.Gone, gone) {
			t.Fatalf("rule 3: Gone %v hangs on Made, was %v", e.Gone, gone)
		}
		if err == api.OK {
			root = e.Root
			w.wants(t, "P12.8", undo(gone...))
		}
		list, _ := w.x.Nodes(nil, root)
		kept := slices.Clone(list)
		again, _ := w.x.Nodes(nil, root)
		writeOver(again)
		if !slices.Equal(list, kept) {
			t.Fatalf("rule 3: Nodes answers what it answered: %v, was %v", list, kept)
		}
		w.wants(t, "rule 3: behind answers that were written over", walk(0, most, root))
	}
}

func TestUndoLeavesItsList(t *testing.T) {
	for _, bad := range []bool{false, true} {
		w := newTwin(t, 8)
		list := []int{w.node(t, api.Node{A: 1}), w.node(t, api.Node{A: 2}), w.node(t, api.Node{A: 3})}
		if bad {
			list[1] = 5
		}
		made := roomy(list)
		w.x.Undo(nil, made)
		if !untouched(made, list) {
			t.Errorf("rule 3: Undo changed its list: %v, was %v", made, list)
		}
		free := w.p.Free()
		writeOver(made)
		if !slices.Equal(free, w.p.Free()) {
			t.Errorf("rule 3: Undo kept its list")
		}
	}
}

// junk puts nodes of all kinds into a pool, most of them such that a trie could have made them; their handles, and others.
func (m *mixer) junk(t *testing.T, w twin, nodes int) []int {
	handles := []int{0, 7, word(3, 2), word(2000, 1)}
	for range nodes {
		x := api.Node{B: m.below(16), C: m.below(4), D: 1}
		if m.below(5) > 1 {
			p := m.below(4)
			x = api.Node{A: inner(m.below(16)>>(p+1)<<(p+1), p), D: m.below(6)}
			x.B, x.C = m.fitting(w, handles, x, 0), m.fitting(w, handles, x, 1)
		}
		switch m.below(30) {
		case 0:
			x.A = m.one([]int{-1, lowest, highest, inner(3, 1), inner(0, 32), inner(most+1, 2), inner(8, 3)})
		case 1:
			x.B = m.one([]int{-1, most + 1, 0, m.one(handles)})
		case 2:
			x.D = m.one([]int{lowest, -1, 0, 2, highest})
		}
		handles = append(handles, w.node(t, x))
	}
	return handles
}

// fitting tells a handle whose span is within a half of a node's, if it finds one soon.
func (m *mixer) fitting(w twin, handles []int, x api.Node, side int) int {
	first, size := (x.A-1)/64, 1<<((x.A-1)%64)
	lo := first + side*size
	h := 0
	for range 40 {
		h = m.one(handles)
		n, err := doing{w.m, 0, func() {}}.peek(h)
		if err == 0 && n.first >= lo && n.last < lo+size {
			return h
		}
	}
	return h
}

// peek reads without counting a fault.
func (d doing) peek(h int) (seen, api.Errno) {
	faults := d.faults
	n, err := d.root(h)
	d.faults = faults
	return n, err
}

// Nodes that no trie made: all calls against the model, for all that they read.
func TestNodesThatNoTrieMade(t *testing.T) {
	r := mixer(3)
	ends := map[string]int{}
	for range 40 {
		w := newTwin(t, 80)
		handles := r.junk(t, w, 60)
		for range 3 {
			w.wants(t, "P12.8", give(r.one(handles)))
		}
		for range 60 {
			h, g := handles[len(handles)-1-r.below(30)], handles[len(handles)-1-r.below(40)]
			key, other := r.below(17), r.below(17)
			for _, c := range []api.Call{
				find(key, h), count(h), rank(key, h), nth(r.below(8)-1, h), after(key, h), walk(key, other, h), walk(0, most, h), left(walk(0, most, h), 1+r.below(3)),
				diff(h, g), diff(g, h), left(diff(h, g), 1+r.below(3)), nodes(h), put(key, r.below(4), h), drop(key, h),
			} {
				a := w.wants(t, "P12.2: nodes that no trie made", c)
				ends[fmt.Sprint(c.Kind, " ", a.Err)]++
				if len(a.Ints) > 0 && (c.Kind == 2 || c.Kind == 3) {
					w.wants(t, "P12.8", undo(a.Ints[1+a.Ints[0]:]...))
				}
			}
		}
	}
	for _, kind := range []int{1, 7, 8, 9, 10, 11, 12, 13, 2, 3} {
		for _, err := range []api.Errno{api.OK, api.ErrTrieRoot, api.ErrPoolGone} {
			if ends[fmt.Sprint(kind, " ", err)] < 20 {
				t.Errorf("the cases are too plain: %v", ends)
			}
		}
	}
}
