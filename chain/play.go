package chain

import (
	"skein/api"
	"skein/clock"
	"skein/crew"
	"skein/pool"
)

// The kinds of Play's calls.
const (
	kindFirst = iota + 1
	kindTop
	kindPush
	kindAt
	kindCut
	kindMove
)

// Play runs a case over a new chain.
func Play(slots, leases int, c api.Case) (api.Run, [][]int, api.Errno) {
	p, err := pool.New(slots)
	if err != api.OK {
		return api.Run{}, nil, err
	}
	k, err := clock.New(leases)
	if err != api.OK {
		return api.Run{}, nil, err
	}
	x := New(p, k)
	run, err := crew.Run(c, &calls{chain: x})
	if err != api.OK {
		return api.Run{}, nil, err
	}
	return run, x.rows(), api.OK
}

// rows: what is told at the end, a row for each version.
func (x *Chain) rows() [][]int {
	slots := x.pool.Slots()
	var list [][]int
	for _, h := range x.versionsIn(slots) {
		i := slotOf(h)
		slot := slots[i-1]
		list = append(list, append([]int{i, slot.Node.A, slot.Mark}, x.sets.of(h)...))
	}
	return list
}

// calls: what a run's calls go by.
type calls struct {
	chain *Chain
	hands [api.MaxWorkers]int // by worker the handle that it goes by
}

// Do does a call of a run.
func (p *calls) Do(w *crew.Worker, c api.Call) api.Answer {
	hand := &p.hands[w.Number()]
	switch c.Kind {
	case kindFirst:
		h, err := p.chain.First(w, api.Node{A: c.A})
		return told(h, 0, err)
	case kindTop:
		h, stamp, err := p.chain.Top(w)
		*hand = h
		return told(h, stamp, err)
	case kindPush:
		h, ok, err := p.chain.Push(w, *hand, api.Node{A: c.A}, keysOf(c.Pairs))
		return api.Answer{Ok: ok, N: slotOf(h), Err: err}
	case kindAt:
		h, err := p.chain.At(w, c.A)
		*hand = h
		return told(h, 0, err)
	case kindCut:
		h, set, err := p.chain.Cut(w, *hand)
		a := told(h, 0, err)
		a.Ints = set
		return a
	case kindMove:
		return p.move(w)
	}
	w.Step()
	return api.Answer{Err: api.ErrChainCall}
}

// told: an answer that tells a version's slot and its stamp; both are 0 beside an error.
func told(h, stamp int, err api.Errno) api.Answer {
	return api.Answer{Ok: err == api.OK, N: slotOf(h), M: stamp, Err: err}
}

func keysOf(pairs []api.Pair) []int {
	var list []int
	for _, x := range pairs {
		list = append(list, x.Key)
	}
	return list
}

// move moves now on, as a snapshot does that nobody holds.
func (p *calls) move(w *crew.Worker) api.Answer {
	snap, err := p.chain.clock.Take(w)
	if err != api.OK {
		return api.Answer{Err: err}
	}
	if err := p.chain.clock.Release(w, snap.Lease); err != api.OK {
		return api.Answer{Err: err}
	}
	return api.Answer{Ok: true, M: snap.Stamp}
}
