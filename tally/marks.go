package tally

import (
	"math/bits"
	"sync/atomic"

	"skein/api"
	"skein/crew"
)

// perWord: how many marks stand in one word.
const perWord = 32

// Marks: marks that are set and cleared.
type Marks struct {
	n     int
	words []atomic.Int64
}

// NewMarks makes some.
func NewMarks(n int) (*Marks, api.Errno) {
	if n < 1 || n > api.MaxMarks {
		return nil, api.ErrTallyMany
	}
	return &Marks{n: n, words: make([]atomic.Int64, (n+perWord-1)/perWord)}, api.OK
}

// place tells the word of a mark, and its bit there; nil: there is no such mark.
func (m *Marks) place(i int) (*atomic.Int64, int64) {
	if i < 0 || i >= m.n {
		return nil, 0
	}
	return &m.words[i/perWord], 1 << (i % perWord)
}

// Set sets a mark: whether it wasn't.
func (m *Marks) Set(w *crew.Worker, i int) (bool, api.Errno) {
	word, bit := m.place(i)
	return change(w, word, bit, bit)
}

// Clear clears a mark: whether it was set.
func (m *Marks) Clear(w *crew.Worker, i int) (bool, api.Errno) {
	word, bit := m.place(i)
	return change(w, word, bit, 0)
}

// change makes a word's bit what it is to be: whether it wasn't. A cas that failed has met another change of the word, maybe of this bit: so it is loaded again.
func change(w *crew.Worker, word *atomic.Int64, bit, to int64) (bool, api.Errno) {
	if word == nil {
		w.Step()
		return false, api.ErrTallyPlace
	}
	for {
		w.Step()
		was := word.Load()
		if was&bit == to {
			return false, api.OK
		}
		w.Step()
		if word.CompareAndSwap(was, was&^bit|to) {
			return true, api.OK
		}
	}
}

// Test tells whether a mark is set.
func (m *Marks) Test(w *crew.Worker, i int) (bool, api.Errno) {
	word, bit := m.place(i)
	w.Step()
	if word == nil {
		return false, api.ErrTallyPlace
	}
	return word.Load()&bit != 0, api.OK
}

// Count tells how many are set.
func (m *Marks) Count(w *crew.Worker) int {
	count := 0
	for i := range m.words {
		w.Step()
		count += bits.OnesCount64(uint64(m.words[i].Load()))
	}
	return count
}

// set tells the marks that are set, rising, when nobody is at work any more.
func (m *Marks) set() []int {
	var set []int
	for i := range m.n {
		if ok, _ := m.Test(nil, i); ok {
			set = append(set, i)
		}
	}
	return set
}
