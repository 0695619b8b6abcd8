package joint

import (
	"skein/api"
	"skein/crew"
)

// The kinds of Play's calls.
const (
	kindRead = iota + 1
	kindChange
	kindMove
	kindLook
)

// Play runs a case over new cells.
func Play(first []int, c api.Case) (api.Run, []int, api.Errno) {
	x, err := New(first)
	if err != api.OK {
		return api.Run{}, nil, err
	}
	run, err := crew.Run(c, calls{x})
	if err != api.OK {
		return api.Run{}, nil, err
	}
	return run, x.values(), api.OK
}

// values: what each cell holds, read alone.
func (x *Cells) values() []int {
	var list []int
	for c := range x.cells {
		list = append(list, x.load(nil, c).value())
	}
	return list
}

// calls: what a run's calls go by.
type calls struct {
	cells *Cells
}

// Do does a call of a run.
func (p calls) Do(w *crew.Worker, c api.Call) api.Answer {
	var a api.Answer
	switch c.Kind {
	case kindRead:
		a.N, a.Err = p.cells.Read(w, c.A)
	case kindChange:
		a.Err = p.change(w, c.Pairs)
	case kindMove:
		_, a.Err = p.cells.Move(w, c.A, c.B, c.C)
	case kindLook:
		a.Ints, a.Err = p.cells.Look(w)
	default:
		a.Err = refuse(w)
	}
	a.Ok = a.Err == api.OK
	return a
}

// refuse is the only line of a call that can't be.
func refuse(w *crew.Worker) api.Errno {
	w.Step()
	return api.ErrJointCall
}

func (p calls) change(w *crew.Worker, pairs []api.Pair) api.Errno {
	l, well := entriesOf(pairs)
	if !well {
		return refuse(w)
	}
	_, err := p.cells.Change(w, l)
	return err
}

// entriesOf: of each entry two pairs tell the cell, with what it must hold and with what it is to hold; false: they don't.
func entriesOf(pairs []api.Pair) ([]api.Entry, bool) {
	if len(pairs)%2 != 0 {
		return nil, false
	}
	var l []api.Entry
	for i := 0; i < len(pairs); i += 2 {
		old, new := pairs[i], pairs[i+1]
		if old.Key != new.Key {
			return nil, false
		}
		l = append(l, api.Entry{Cell: old.Key, Old: old.Value, New: new.Value})
	}
	return l, true
}
