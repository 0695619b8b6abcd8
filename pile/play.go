package pile

import (
	"slices"
	"sync"

	"skein/api"
	"skein/crew"
)

// The kinds of Play's calls.
const (
	kindPop = iota + 1
	kindPush
	kindBack
	kindLook
)

// maxRounds: of a storm.
const maxRounds = 10000

// Play does a case over a pile.
func Play(n, tag int, c api.Case) (api.Run, []int, int, api.Errno) {
	p, err := New(n, tag)
	if err != api.OK {
		return api.Run{}, nil, 0, err
	}
	run, err := crew.Run(c, &calls{pile: p})
	if err != api.OK {
		return api.Run{}, nil, 0, err
	}
	return run, p.Places(), p.Head(), api.OK
}

// calls: what a run's calls go by.
type calls struct {
	pile *Pile
	out  [api.MaxWorkers]int // by worker what its last Pop that ended well answered; 0, if it has pushed that back
}

// Do does a call of a run.
func (p *calls) Do(w *crew.Worker, c api.Call) api.Answer {
	switch c.Kind {
	case kindPop:
		return p.pop(w)
	case kindPush:
		return api.Answer{Err: p.pile.Push(w, c.A)}
	case kindBack:
		return p.back(w)
	case kindLook:
		return api.Answer{Ints: p.pile.Look(w)}
	}
	w.Step()
	return api.Answer{Err: api.ErrPileCall}
}

func (p *calls) pop(w *crew.Worker) api.Answer {
	i, err := p.pile.Pop(w)
	if err != api.OK {
		return api.Answer{Err: err}
	}
	p.out[w.Number()] = i
	return api.Answer{N: i}
}

// back pushes what the worker popped; with nothing to push that is 0, which Push refuses as a call 3 must.
func (p *calls) back(w *crew.Worker) api.Answer {
	out := &p.out[w.Number()]
	err := p.pile.Push(w, *out)
	*out = 0
	return api.Answer{Err: err}
}

// Storm pops and pushes back in goroutines that run freely.
func Storm(n, workers, rounds int) ([]int, api.Errno) {
	p, err := New(n, 0)
	if err != api.OK {
		return nil, err
	}
	if workers < 1 || workers > api.MaxWorkers || rounds < 0 || rounds > maxRounds {
		return nil, api.ErrPileMany
	}
	var all sync.WaitGroup
	for range workers {
		all.Add(1)
		go func() {
			defer all.Done()
			rush(p, rounds)
		}()
	}
	all.Wait()
	places := p.Places()
	slices.Sort(places)
	return places, api.OK
}

// rush pops and pushes back so many times, without turns.
func rush(p *Pile, rounds int) {
	for range rounds {
		if i, err := p.Pop(nil); err == api.OK {
			p.Push(nil, i)
		}
	}
}
