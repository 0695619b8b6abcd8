package hazard

import (
	"slices"

	"skein/api"
	"skein/crew"
)

// What a storm's workers do: a round, at its end a clearing, and then a Scan.
const (
	doRound = iota + 1
	doClear
	doScan
)

// Storm runs freely in goroutines.
func Storm(slots, workers, roots, rounds int) (int, int, api.Errno) {
	p, r, err := fresh(slots, workers, roots)
	if err != api.OK {
		return 0, 0, err
	}
	if roots > slots || rounds < 0 || rounds > api.MaxCalls {
		return 0, 0, api.ErrHazardMany
	}
	for root := range roots {
		r.Swap(nil, root, api.Node{A: root})
	}
	answers, err := crew.Loose(blow(workers, rounds), storm{r})
	if err != api.OK {
		return 0, 0, err
	}
	faults := 0
	for _, a := range slices.Concat(answers...) {
		faults += a.N
	}
	r.calm()
	return len(p.Free()), faults + p.Faults(), api.OK
}

// blow: the rounds of all workers.
func blow(workers, rounds int) api.Case {
	var each []api.Call
	for n := range rounds {
		each = append(each, api.Call{Kind: doRound, A: n})
	}
	return api.Case{Work: slices.Repeat([][]api.Call{each}, workers)}
}

// calm empties all lists: first nobody names anything any more.
func (r *Rack) calm() {
	for _, kind := range []int{doClear, doScan} {
		for k := range r.workers {
			work := make([][]api.Call, k+1)
			work[k] = []api.Call{{Kind: kind}}
			crew.Loose(api.Case{Work: work}, storm{r})
		}
	}
}

// storm: what its calls go by.
type storm struct {
	rack *Rack
}

// Do: N is how many faults it met that the pool doesn't count.
func (s storm) Do(w *crew.Worker, c api.Call) api.Answer {
	switch c.Kind {
	case doRound:
		return api.Answer{N: s.round(w, c.A)}
	case doClear:
		for i := range api.MaxHazards {
			s.rack.Clear(w, i)
		}
	case doScan:
		s.rack.Scan(w)
	}
	return api.Answer{}
}

// round n of a worker.
func (s storm) round(w *crew.Worker, n int) int {
	i, root := n%api.MaxHazards, n%len(s.rack.roots)
	s.rack.Protect(w, i, root)
	_, err := s.rack.Read(w, i)
	// In a full pool it does nothing.
	s.rack.Swap(w, root, api.Node{A: w.Number(), B: n})
	s.rack.Clear(w, i)
	s.rack.Scan(w)
	if err != api.OK && err != api.ErrPoolGone {
		return 1
	}
	return 0
}
