package pool

import (
	"skein/api"
	"skein/crew"
)

// The kinds of Play's calls.
const (
	kindTake = iota + 1
	kindGive
	kindRead
	kindMark
	kindCasMark
	kindLink
	kindSwapLink
	kindGens
	kindLook
	kindBack
)

// Play does a case over a pool.
func Play(n int, c api.Case) (api.Run, []api.Slot, []int, int, api.Errno) {
	p, err := New(n)
	if err != api.OK {
		return api.Run{}, nil, nil, 0, err
	}
	run, err := crew.Run(c, &calls{pool: p})
	if err != api.OK {
		return api.Run{}, nil, nil, 0, err
	}
	return run, p.Slots(), p.Free(), p.Faults(), api.OK
}

// calls: what a run's calls go by.
type calls struct {
	pool  *Pool
	taken [api.MaxWorkers][]int // by worker, of each call that ended, the handle that it took; 0: none
}

// Do does a call of a run.
func (p *calls) Do(w *crew.Worker, c api.Call) api.Answer {
	taken := &p.taken[w.Number()]
	if c.Kind == kindTake {
		h, err := p.pool.Take(w, api.Node{A: c.A, B: c.B}, c.C)
		*taken = append(*taken, h)
		return api.Answer{N: h, Err: err}
	}
	a := p.other(w, c, named(*taken, c.A))
	*taken = append(*taken, 0)
	return a
}

// named: the handle that a call names by a number.
func named(taken []int, t int) int {
	if t >= 0 {
		return t
	}
	// The least int has no counterpart above 0, so the place is found from -1 on.
	if at := -1 - t; at < len(taken) {
		return taken[at]
	}
	return 0
}

// other does a call that is no Take; h is the handle that its A names.
func (p *calls) other(w *crew.Worker, c api.Call, h int) api.Answer {
	var a api.Answer
	switch c.Kind {
	case kindGive:
		a.Err = p.pool.Give(w, h)
	case kindRead:
		a.Ints, a.Err = p.read(w, h)
	case kindMark:
		a.N, a.Err = p.pool.Mark(w, h)
	case kindCasMark:
		a.Ok, a.Err = p.pool.CasMark(w, h, c.B, c.C)
	case kindLink:
		a.N, a.Err = p.pool.Link(w, h)
	case kindSwapLink:
		a.N, a.Err = p.pool.SwapLink(w, h, c.B)
	case kindGens:
		a.Ints = p.gens(w)
	case kindLook:
		a.Ints = p.pool.Look(w)
	case kindBack:
		a.Err = p.pool.Back(w, c.A, c.B)
	default:
		w.Step()
		a.Err = api.ErrPoolCall
	}
	return a
}

func (p *calls) read(w *crew.Worker, h int) ([]int, api.Errno) {
	x, err := p.pool.Read(w, h)
	if err != api.OK {
		return nil, err
	}
	return []int{x.A, x.B, x.C, x.D}, api.OK
}

// gens: generation, mark, by turns.
func (p *calls) gens(w *crew.Worker) []int {
	gens, marks := p.pool.Gens(w)
	var list []int
	for i, gen := range gens {
		list = append(list, gen, marks[i])
	}
	return list
}
