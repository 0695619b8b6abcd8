package pool

import (
	"skein/api"
	"skein/crew"
)

// Gens tells the slots' generations and marks, one slot looked at behind the other.
func (p *Pool) Gens(w *crew.Worker) ([]int, []int) {
	n := len(p.slots) - 1
	gens, marks := make([]int, n), make([]int, n)
	for i := range n {
		w.Step()
		s := p.slots[i+1].Load().told()
		gens[i], marks[i] = s.Gen, s.Mark
	}
	return gens, marks
}

// Look tells which are free at one moment.
func (p *Pool) Look(w *crew.Worker) []int { return p.free.Look(w) }

// Back lays a slot that is free, and lost, into the pile again.
func (p *Pool) Back(w *crew.Worker, i, gen int) api.Errno {
	w.Step()
	if !p.has(i) || gen < 0 || gen%2 != 0 {
		return api.ErrPoolHandle
	}
	was := p.slots[i].Load()
	// Nothing changes in a life of an even generation: what is copied of it is what it is.
	if was.gen != gen || !p.slots[i].CompareAndSwap(was, was.again(gen+2)) {
		return api.ErrPoolGone
	}
	return p.free.Push(w, i)
}

// Slots tells all slots.
func (p *Pool) Slots() []api.Slot {
	list := make([]api.Slot, len(p.slots)-1)
	for i := range list {
		list[i] = p.slots[i+1].Load().told()
	}
	return list
}

// Free tells which are free, from the top of the pile.
func (p *Pool) Free() []int { return p.free.Places() }

// Faults tells how often a slot was met that had been given back.
func (p *Pool) Faults() int { return int(p.faults.Load()) }
