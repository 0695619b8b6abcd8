package joint

import (
	"sync/atomic"

	"skein/crew"
	"skein/word"
)

// held: what stands in a cell: the word of what it holds, or, below 0, which descriptor is under way in it.
type held int

// underWay: what stands in a cell while a descriptor is under way in it.
func underWay(d int) held { return held(-(d + 1)) }

// isUnderWay tells whether it is a descriptor, and no word.
func (h held) isUnderWay() bool { return h < 0 }

// descriptor tells which one is under way.
func (h held) descriptor() int { return -int(h) - 1 }

// value: what a cell holds by this word.
func (h held) value() int { return word.Index(int(h)) }

// next: the word of what the cell holds behind this one. Its tag is another one, so that a cas that comes late, by a word that was replaced, does nothing.
func (h held) next(n int) held {
	w, _ := word.Next(int(h), n) // nothing but words and numbers that a cell can hold come into entries
	return held(w)
}

// cell: a word that all reach; each access of it is a line.
type cell struct {
	word atomic.Int64
}

func (c *cell) load(w *crew.Worker) held {
	w.Step()
	return held(c.word.Load())
}

func (c *cell) cas(w *crew.Worker, old, new held) bool {
	w.Step()
	return c.word.CompareAndSwap(int64(old), int64(new))
}
