package hazard

import (
	"skein/api"
	"skein/crew"
	"skein/pool"
)

// The kinds of Play's calls.
const (
	kindProtect = iota + 1
	kindRead
	kindClear
	kindSwap
	kindPut
	kindDrop
	kindScan
)

// Play does a case over a rack.
func Play(slots, workers, roots int, c api.Case) (api.Run, [][]int, api.Errno) {
	p, r, err := fresh(slots, workers, roots)
	if err != api.OK {
		return api.Run{}, nil, err
	}
	run, err := crew.Run(c, calls{r})
	if err != api.OK {
		return api.Run{}, nil, err
	}
	return run, rows(p, r), api.OK
}

// fresh: a new pool, and a rack over it.
func fresh(slots, workers, roots int) (*pool.Pool, *Rack, api.Errno) {
	p, err := pool.New(slots)
	if err != api.OK {
		return nil, nil, err
	}
	r, err := New(p, workers, roots)
	return p, r, err
}

// rows: what is told at the end.
func rows(p *pool.Pool, r *Rack) [][]int {
	list := [][]int{{len(p.Free()), p.Faults()}, r.Roots()}
	for k := range r.workers {
		list = append(list, r.Hazards(k))
	}
	for k := range r.workers {
		list = append(list, r.Waiting(k))
	}
	return list
}

// calls: what a run's calls go by.
type calls struct {
	rack *Rack
}

// Do does a call of a run.
func (p calls) Do(w *crew.Worker, c api.Call) api.Answer {
	var a api.Answer
	switch c.Kind {
	case kindProtect:
		a.N, a.Err = p.rack.Protect(w, c.A, c.B)
	case kindRead:
		a.Ints, a.Err = p.read(w, c.A)
	case kindClear:
		a.Err = p.rack.Clear(w, c.A)
	case kindSwap:
		a.N, a.Err = p.rack.Swap(w, c.A, api.Node{A: c.B, B: c.C})
	case kindPut:
		a.N, a.Ok, a.Err = p.rack.Put(w, c.A, c.B, api.Node{A: c.C})
	case kindDrop:
		a.N, a.Err = p.rack.Drop(w, c.A)
	case kindScan:
		a.N, a.Err = p.rack.Scan(w)
	default:
		w.Step()
		a.Err = api.ErrHazardCall
	}
	return a
}

func (p calls) read(w *crew.Worker, i int) ([]int, api.Errno) {
	x, err := p.rack.Read(w, i)
	if err != api.OK {
		return nil, err
	}
	return []int{x.A, x.B, x.C, x.D}, api.OK
}
