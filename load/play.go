package load

import (
	"skein/api"
	"skein/chain"
	"skein/clock"
	"skein/crew"
	"skein/pool"
	"skein/word"
)

// The kinds of Play's calls.
const (
	kindReady = iota + 1
	kindWait
	kindState
	kindTell
)

// Play does a case.
func Play(s api.Setup, c api.Case) (api.Run, [][]int, api.Errno) {
	p, err := pool.New(s.Slots)
	if err != api.OK {
		return api.Run{}, nil, err
	}
	k, err := clock.New(s.Leases)
	if err != api.OK {
		return api.Run{}, nil, err
	}
	if s.Parts < 1 || s.Parts > api.MaxParts {
		return api.Run{}, nil, api.ErrLoadPart
	}
	x := New(p, chains(s.Parts, p, k), s.Source, s.Fails)
	run, err := crew.Run(c, calls{x})
	if err != api.OK {
		return api.Run{}, nil, err
	}
	return run, x.rows(), api.OK
}

// chains makes one for each part.
func chains(parts int, p *pool.Pool, k *clock.Clock) []*chain.Chain {
	list := make([]*chain.Chain, parts)
	for i := range list {
		list[i] = chain.New(p, k)
	}
	return list
}

// rows: what is told at the end.
func (x *Load) rows() [][]int {
	list := [][]int{x.States(), {len(x.pool.Free()), x.pool.Faults()}}
	for _, p := range x.parts {
		var slots []int
		for _, h := range p.chain.Versions() {
			slots = append(slots, word.Index(h))
		}
		list = append(list, slots)
	}
	return list
}

// calls: what a run's calls go by.
type calls struct{ load *Load }

// Do does a call of a run.
func (p calls) Do(w *crew.Worker, c api.Call) api.Answer {
	switch c.Kind {
	case kindReady:
		return told(0, p.load.Ready(w, c.A))
	case kindWait:
		return told(0, p.load.Wait(w, c.A))
	case kindState:
		return told(p.load.State(w, c.A))
	case kindTell:
		return p.load.tell(w, c.A)
	}
	w.Step()
	return told(0, api.ErrLoadCall)
}

func told(n int, err api.Errno) api.Answer { return api.Answer{Ok: err == api.OK, N: n, Err: err} }

// tell tells the newest version of a part: its number, and what it holds.
func (x *Load) tell(w *crew.Worker, part int) api.Answer {
	if !x.has(part) {
		return told(0, refused(w))
	}
	h, _, err := x.parts[part].chain.Top(w)
	if err != api.OK {
		return told(0, err)
	}
	version, err := x.pool.Read(w, h)
	if err != api.OK {
		return told(0, err)
	}
	a := told(version.B, api.OK)
	for pair, err := range x.trie.Walk(w, version.A, 0, api.MaxKey) {
		if err != api.OK {
			return told(0, err)
		}
		a.Pairs = append(a.Pairs, pair)
	}
	return a
}
