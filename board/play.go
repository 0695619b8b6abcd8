package board

import (
	"skein/api"
	"skein/crew"
)

// The kinds of Play's calls.
const (
	kindGet = iota + 1
	kindPut
	kindSwap
	kindDrop
	kindAll
	kindCount
	kindAdd
)

// Play does a case.
func Play(start []api.Pair, c api.Case) (api.Run, []api.Pair, api.Errno) {
	b, err := New(start)
	if err != api.OK {
		return api.Run{}, nil, err
	}
	run, err := crew.Run(c, calls{b})
	if err != api.OK {
		return api.Run{}, nil, err
	}
	return run, b.All(nil), api.OK
}

// calls: what a run's calls go by.
type calls struct {
	board *Board
}

// Do does a call of a run.
func (p calls) Do(w *crew.Worker, c api.Call) api.Answer {
	var a api.Answer
	switch c.Kind {
	case kindGet:
		a.N, a.Err = p.board.Get(w, c.A)
	case kindPut:
		a.Ok, a.Err = p.board.Put(w, c.A, c.B)
	case kindSwap:
		a.Ok, a.Err = p.board.Swap(w, c.A, c.B, c.C)
	case kindDrop:
		a.N, a.Err = p.board.Drop(w, c.A)
	case kindAll:
		a.Pairs = p.board.All(w)
	case kindCount:
		a.N = p.board.Count(w)
	case kindAdd:
		a.Ok, a.Err = p.board.Add(w, c.A, c.B)
	default:
		w.Step()
		a.Err = api.ErrBoardCall
	}
	return a
}
