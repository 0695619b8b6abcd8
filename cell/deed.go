package cell

import (
	"sync/atomic"

	"skein/api"
	"skein/crew"
)

// deed: what a call does with its cell, line by line; so a call of a run does the same lines as one that is called by its name.
type deed interface {
	do(w *crew.Worker, cell *atomic.Int64) api.Answer
}

type (
	load  struct{}
	store struct{ v int }
	add   struct{ v int }
	swap  struct{ v int }
	cas   struct{ old, v int }
	most  struct{ v int }
	least struct{ v int }
)

func (load) do(w *crew.Worker, cell *atomic.Int64) api.Answer {
	w.Step()
	return api.Answer{N: int(cell.Load())}
}

func (d store) do(w *crew.Worker, cell *atomic.Int64) api.Answer {
	w.Step()
	cell.Store(int64(d.v))
	return api.Answer{}
}

func (d add) do(w *crew.Worker, cell *atomic.Int64) api.Answer {
	w.Step()
	return api.Answer{N: int(cell.Add(int64(d.v)))}
}

func (d swap) do(w *crew.Worker, cell *atomic.Int64) api.Answer {
	w.Step()
	return api.Answer{N: int(cell.Swap(int64(d.v)))}
}

func (d cas) do(w *crew.Worker, cell *atomic.Int64) api.Answer {
	w.Step()
	return api.Answer{Ok: turned(cell, d.old, d.v)}
}

func (d most) do(w *crew.Worker, cell *atomic.Int64) api.Answer {
	for {
		w.Step()
		x := int(cell.Load())
		if x >= d.v {
			return api.Answer{N: x}
		}
		w.Step()
		if turned(cell, x, d.v) {
			return api.Answer{N: d.v}
		}
	}
}

func (d least) do(w *crew.Worker, cell *atomic.Int64) api.Answer {
	for {
		w.Step()
		x := int(cell.Load())
		if x <= d.v {
			return api.Answer{N: x}
		}
		w.Step()
		if turned(cell, x, d.v) {
			return api.Answer{N: d.v}
		}
	}
}

// turned tells whether the cell was old; it is v then.
func turned(cell *atomic.Int64, old, v int) bool {
	return cell.CompareAndSwap(int64(old), int64(v))
}
