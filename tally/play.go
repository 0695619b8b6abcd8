package tally

import (
	"skein/api"
	"skein/crew"
)

// The kinds of Play's calls.
const (
	kindAdd = iota + 1
	kindSum
	kindNext
	kindNow
	kindSet
	kindClear
	kindTest
	kindCount
)

// Play does a case.
func Play(shards, first, marks int, c api.Case) (api.Run, api.Tally, api.Errno) {
	counter, err := NewCounter(shards)
	if err != api.OK {
		return api.Run{}, api.Tally{}, err
	}
	m, err := NewMarks(marks)
	if err != api.OK {
		return api.Run{}, api.Tally{}, err
	}
	p := calls{counter: counter, ticket: NewTicket(first), marks: m}
	run, err := crew.Run(c, p)
	if err != api.OK {
		return api.Run{}, api.Tally{}, err
	}
	return run, p.tally(), api.OK
}

// calls: what a run's calls go by.
type calls struct {
	counter *Counter
	ticket  *Ticket
	marks   *Marks
}

// tally tells how all of it is behind the run.
func (p calls) tally() api.Tally {
	return api.Tally{Shards: p.counter.values(), Ticket: p.ticket.Now(nil), Marks: p.marks.set()}
}

// Do does a call of a run.
func (p calls) Do(w *crew.Worker, c api.Call) api.Answer {
	switch c.Kind {
	case kindAdd:
		return api.Answer{Err: p.counter.Add(w, c.A, c.B)}
	case kindSum:
		return api.Answer{N: p.counter.Sum(w)}
	case kindNext:
		return api.Answer{N: p.ticket.Next(w)}
	case kindNow:
		return api.Answer{N: p.ticket.Now(w)}
	case kindSet:
		return told(p.marks.Set(w, c.A))
	case kindClear:
		return told(p.marks.Clear(w, c.A))
	case kindTest:
		return told(p.marks.Test(w, c.A))
	case kindCount:
		return api.Answer{N: p.marks.Count(w)}
	}
	w.Step()
	return api.Answer{Err: api.ErrTallyCall}
}

// told: what a call of a mark says, as an answer.
func told(ok bool, err api.Errno) api.Answer { return api.Answer{Ok: ok, Err: err} }
