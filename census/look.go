package census

import (
	"skein/api"
	"skein/crew"
)

// view: of each word a value and a number; 0 of those that the census hasn't. Being arrays they are copied whole, so that no view shares memory with another one, and are held against one another at once.
type view struct {
	values, numbers [api.MaxWorkers]int
}

// put lays down what a word holds.
func (v *view) put(k int, x *word) {
	v.values[k], v.numbers[k] = x.value, x.number
}

// word: what one access loads or stores. It is never changed: who changes a word stores another one.
type word struct {
	value, number int
	seen          view // what its worker's Scan saw ahead of the store
}

// collected: the words as n lines found them, one behind the other.
type collected struct {
	view
	words [api.MaxWorkers]*word
}

// load is a line: what a word holds.
func (c *Census) load(w *crew.Worker, k int) *word {
	w.Step()
	return c.words[k].Load()
}

// collect loads all words, from 0 on.
func (c *Census) collect(w *crew.Worker) collected {
	var all collected
	for k := range c.words {
		all.words[k] = c.load(w, k)
		all.put(k, all.words[k])
	}
	return all
}

// look is a Scan: how all words stood at one moment.
func (c *Census) look(w *crew.Worker) view {
	var moved moves
	a := c.collect(w)
	for {
		b := c.collect(w)
		// Numbers only grow: where all are alike, all words stood so from the end of a to the beginning of b.
		if a.numbers == b.numbers {
			return b.view
		}
		if k := moved.mark(a.view, b.view); k >= 0 {
			return b.words[k].seen
		}
		a = b
	}
}

// moves: of each word whether it has moved once in a Scan.
type moves [api.MaxWorkers]bool

// mark lets those whose numbers differ move, from 0 on: the first one that had moved already; -1: none had. The view of that one is of a moment within this Scan: the Update that stored it began behind another store of that word, and that one came within this Scan too.
func (m *moves) mark(a, b view) int {
	for k := range m {
		if a.numbers[k] == b.numbers[k] {
			continue
		}
		if m[k] {
			return k
		}
		m[k] = true
	}
	return -1
}
