package epoch

import (
	"skein/api"
	"skein/crew"
	"skein/pool"
)

// The kinds of Play's calls.
const (
	kindEnter = iota + 1
	kindLeave
	kindRetire
	kindAdvance
	kindCollect
	kindStalled
	kindLoad
	kindBury
)

// Play runs a case over new epochs.
func Play(slots, workers int, c api.Case) (api.Run, [][]int, api.Errno) {
	p, err := pool.New(slots)
	if err != api.OK {
		return api.Run{}, nil, err
	}
	e := New(p, workers)
	run, err := crew.Run(c, calls{pool: p, epoch: e})
	if err != api.OK {
		return api.Run{}, nil, err
	}
	return run, rows(p, e), api.OK
}

// rows: what is told at the end.
func rows(p *pool.Pool, e *Epoch) [][]int {
	list := [][]int{{e.Now(), len(p.Free())}, e.At()}
	for k := range e.workers {
		var slots []int
		for _, h := range e.Waiting(k) {
			slots = append(slots, slotOf(h))
		}
		list = append(list, slots)
	}
	return list
}

// slotOf tells the slot's index of a handle that was taken: it lies above the generation, which is a tag.
func slotOf(h int) int { return h / (api.MaxTag + 1) }

// calls: what a run's calls go by.
type calls struct {
	pool  *pool.Pool
	epoch *Epoch
}

// Do does a call of a run.
func (p calls) Do(w *crew.Worker, c api.Call) api.Answer {
	if c.Kind < kindEnter || c.Kind > kindBury {
		return refused(w, api.ErrEpochCall)
	}
	// Here for all: what some calls answer doesn't tell it, and a Take would come ahead of it.
	if !p.epoch.has(w.Number()) {
		return refused(w, api.ErrEpochWorker)
	}
	switch c.Kind {
	case kindEnter:
		return told(p.epoch.Enter(w))
	case kindLeave:
		return told(p.epoch.Leave(w))
	case kindRetire:
		return p.retire(w)
	case kindAdvance:
		return api.Answer{Ok: p.epoch.Advance(w)}
	case kindCollect:
		n, err := p.epoch.Collect(w)
		return api.Answer{Ok: err == api.OK, N: n, Err: err}
	case kindStalled:
		return api.Answer{Ok: true, Ints: p.epoch.Stalled(w)}
	case kindLoad:
		return api.Answer{Ok: true, N: p.epoch.Load(w)}
	}
	return told(p.epoch.Bury(w, c.A))
}

// refused is a line without an access.
func refused(w *crew.Worker, err api.Errno) api.Answer {
	w.Step()
	return api.Answer{Err: err}
}

func told(err api.Errno) api.Answer { return api.Answer{Ok: err == api.OK, Err: err} }

// retire takes a slot and lets it wait.
func (p calls) retire(w *crew.Worker) api.Answer {
	h, err := p.pool.Take(w, api.Node{}, 0)
	if err != api.OK {
		return api.Answer{Err: err}
	}
	if err := p.epoch.Retire(w, h); err != api.OK {
		return api.Answer{Err: err}
	}
	return api.Answer{Ok: true, N: slotOf(h)}
}
