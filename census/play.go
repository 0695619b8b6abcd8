package census

import (
	"slices"

	"skein/api"
	"skein/crew"
)

// The kinds of Play's calls.
const (
	kindUpdate = iota + 1
	kindScan
	kindRead
	kindTotal
)

// Play does a case.
func Play(first []int, c api.Case) (api.Run, api.Seen, api.Errno) {
	words, err := New(first)
	if err != api.OK {
		return api.Run{}, api.Seen{}, err
	}
	run, err := crew.Run(c, calls{words})
	if err != api.OK {
		return api.Run{}, api.Seen{}, err
	}
	return run, words.Words(), api.OK
}

// calls: what a run's calls go by.
type calls struct {
	census *Census
}

// Do does a call of a run.
func (p calls) Do(w *crew.Worker, c api.Call) api.Answer {
	var a api.Answer
	switch c.Kind {
	case kindUpdate:
		a.N, a.Err = p.census.Update(w, c.A)
	case kindScan:
		s := p.census.Scan(w)
		a.Ints = slices.Concat(s.Values, s.Numbers)
	case kindRead:
		a.N, a.M, a.Err = p.census.Read(w, c.A)
	case kindTotal:
		a.N = p.census.Total(w)
	default:
		w.Step()
		a.Err = api.ErrCensusCall
	}
	a.Ok = a.Err == api.OK
	return a
}
