package cell

import (
	"sync"

	"skein/api"
	"skein/crew"
)

// The kinds of Play's calls.
const (
	kindLoad = iota + 1
	kindStore
	kindAdd
	kindSwap
	kindCas
	kindMost
	kindLeast
)

// The cells of a storm.
const (
	sums = iota
	greatest
	smallest
	stormCells
)

// Play does a case over cells.
func Play(n int, first []int, c api.Case) (api.Run, []int, api.Errno) {
	cells, err := New(n)
	if err != api.OK {
		return api.Run{}, nil, err
	}
	if len(first) > n {
		return api.Run{}, nil, api.ErrCellMany
	}
	for i, v := range first {
		cells.cells[i].Store(int64(v))
	}
	run, err := crew.Run(c, calls{cells})
	if err != api.OK {
		return api.Run{}, nil, err
	}
	return run, cells.Values(), api.OK
}

// calls: what a run's calls do with cells.
type calls struct{ cells *Cells }

// Do does a call of a run.
func (p calls) Do(w *crew.Worker, c api.Call) api.Answer {
	d := deedOf(c)
	if d == nil {
		w.Step()
		return api.Answer{Err: api.ErrCellCall}
	}
	return p.cells.do(w, c.A, d)
}

// deedOf tells what a call does; nil: there is no such call.
func deedOf(c api.Call) deed {
	switch c.Kind {
	case kindLoad:
		return load{}
	case kindStore:
		return store{c.B}
	case kindAdd:
		return add{c.B}
	case kindSwap:
		return swap{c.B}
	case kindCas:
		return cas{c.B, c.C}
	case kindMost:
		return most{c.B}
	case kindLeast:
		return least{c.B}
	}
	return nil
}

// Storm adds, and tells the greatest and the least, in goroutines that run freely.
func Storm(work [][]int) (int, int, int) {
	cells, _ := New(stormCells)
	var all sync.WaitGroup
	for _, list := range work {
		all.Add(1)
		go func() {
			defer all.Done()
			rush(cells, list)
		}()
	}
	all.Wait()
	values := cells.Values()
	return values[sums], values[greatest], values[smallest]
}

// rush does a list's numbers, one behind the other, without turns.
func rush(cells *Cells, list []int) {
	for _, v := range list {
		cells.Add(nil, sums, v)
		cells.Most(nil, greatest, v)
		cells.Least(nil, smallest, v)
	}
}
