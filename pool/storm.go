package pool

import (
	"slices"

	"skein/api"
	"skein/crew"
)

// maxRounds: of a storm.
const maxRounds = 10000

// Storm takes, reads and gives back in goroutines that run freely.
func Storm(n, workers, rounds int) (int, int, api.Errno) {
	p, err := New(n)
	if err != api.OK {
		return 0, 0, err
	}
	if workers < 1 || workers > api.MaxWorkers || rounds < 0 || rounds > maxRounds {
		return 0, 0, api.ErrPoolMany
	}
	each := []api.Call{{A: rounds}}
	answers, err := crew.Loose(api.Case{Work: slices.Repeat([][]api.Call{each}, workers)}, rush{p})
	if err != api.OK {
		return 0, 0, err
	}
	wrong := p.Faults()
	for _, a := range answers {
		wrong += a[0].N
	}
	return len(p.Free()), wrong, api.OK
}

// rush: what a storm's workers do.
type rush struct {
	pool *Pool
}

// Do takes a slot, reads it and gives it back, A times: N is how often it read another node than its own.
func (r rush) Do(w *crew.Worker, c api.Call) api.Answer {
	k := w.Number()
	mine := api.Node{A: k, B: k, C: k, D: k}
	others := 0
	for range c.A {
		h, err := r.pool.Take(w, mine, 0)
		if err != api.OK {
			continue
		}
		if x, err := r.pool.Read(w, h); err == api.OK && x != mine {
			others++
		}
		r.pool.Give(w, h)
	}
	return api.Answer{N: others}
}
