package census

import (
	"testing"

	"skein/api"
	"skein/crew"
)

// wantWord looks into a word: what no call tells is what it holds beside its value and its number, its view.
func wantWord(t *testing.T, promise string, c *Census, k int, want word) {
	t.Helper()
	if got := *c.words[k].Load(); got != want {
		t.Errorf("%s: the word %d holds %+v, want %+v", promise, k, got, want)
	}
}

// At first each word's view is of all words as they are then.
func TestViewsAtFirst(t *testing.T) {
	values := [api.MaxWorkers]int{5, -7, 9, 0, 11, 1 << 40, -1, 8}
	for n := 1; n <= api.MaxWorkers; n++ {
		c, _ := New(values[:n])
		var all view
		copy(all.values[:], values[:n])
		for k := range n {
			wantWord(t, "P25.1", c, k, word{value: values[k], seen: all})
		}
		if len(c.words) != n {
			t.Errorf("P25.1: %d words, want %d", len(c.words), n)
		}
	}
}

// An Update stores what its Scan saw: its own word as it was ahead of it. No other word's view is touched, nor is any by a Scan.
func TestViewsThatUpdatesStore(t *testing.T) {
	c, _ := New([]int{5, 7})
	at := func(a, b, m, n int) view {
		return view{values: [api.MaxWorkers]int{a, b}, numbers: [api.MaxWorkers]int{m, n}}
	}
	other := does(func(w *crew.Worker, call api.Call) api.Answer {
		c.Update(w, call.A)
		c.Scan(w)
		return api.Answer{}
	})
	c.Update(nil, 6)
	wantWord(t, "P25.3", c, 0, word{6, 1, at(5, 7, 0, 0)})
	wantWord(t, "P25.3", c, 1, word{7, 0, at(5, 7, 0, 0)})
	crew.Run(api.Case{Work: [][]api.Call{nil, {{A: 8}}}}, other)
	wantWord(t, "P25.3", c, 0, word{6, 1, at(5, 7, 0, 0)})
	wantWord(t, "P25.3", c, 1, word{8, 1, at(6, 7, 1, 0)})
	c.Update(nil, -1)
	c.Total(nil)
	c.Scan(nil)
	wantWord(t, "P25.3", c, 0, word{-1, 2, at(6, 8, 1, 1)})
	crew.Run(api.Case{Work: [][]api.Call{nil, nil, {{A: 8}}}}, other)
	wantWord(t, "P25.3", c, 0, word{-1, 2, at(6, 8, 1, 1)})
	wantWord(t, "P25.3", c, 1, word{8, 1, at(6, 7, 1, 0)})
}

// does: a function as what a call does.
type does func(w *crew.Worker, c api.Call) api.Answer

func (f does) Do(w *crew.Worker, c api.Call) api.Answer { return f(w, c) }
