// Package gust: what a storm's workers do, over whatever answers as a map does, and what is told of it: see doc/21-storm.md. Package storm hands in a map; by itself it can be held against one that refuses, and that went wrong.
package gust

import (
	"skein/api"
	"skein/crew"
	"skein/tally"
)

// Map: the calls of a map that a storm does.
type Map interface {
	Get(w *crew.Worker, key int) (api.Told, api.Errno)
	Put(w *crew.Worker, key, value int) (api.Told, api.Errno)
	Drop(w *crew.Worker, key int) (api.Told, api.Errno)
	Snap(w *crew.Worker) (api.Snap, api.Errno)
	Free(w *crew.Worker, x api.Snap) api.Errno
	View(w *crew.Worker, x api.Snap, part int) (int, int, api.Errno)
	Trim(w *crew.Worker, part int) (int, api.Errno)
	Advance(w *crew.Worker) bool
	Collect(w *crew.Worker) (int, api.Errno)
}

// The kinds of a worker's calls.
const (
	kindRound = iota + 1 // A: its number
	kindRest
)

// blowing: a plan that is being done.
type blowing struct {
	hands []hand // by worker
}

// Blow does a plan that can be over a map, each worker in a goroutine of its own: the events, worker by worker, with tickets as their times.
func Blow(p Plan, m Map, times *tally.Ticket) []api.Event {
	b := &blowing{hands: make([]hand, p.Workers)}
	for k := range b.hands {
		b.hands[k] = hand{plan: p, over: m, times: times}
	}
	crew.Loose(work(p), b) // a wait group there knows when all have ended
	settle(p, m)
	return b.events()
}

// work: the calls of all workers.
func work(p Plan) api.Case {
	var c api.Case
	for range p.Workers {
		var calls []api.Call
		for j := range p.Rounds {
			calls = append(calls, api.Call{Kind: kindRound, A: j})
		}
		c.Work = append(c.Work, append(calls, api.Call{Kind: kindRest}))
	}
	return c
}

// Do does a call of a worker.
func (b *blowing) Do(w *crew.Worker, c api.Call) api.Answer {
	h := &b.hands[w.Number()]
	switch c.Kind {
	case kindRound:
		h.round(w, c.A)
	case kindRest:
		h.rest(w)
	}
	return api.Answer{}
}

func (b *blowing) events() []api.Event {
	var list []api.Event
	for _, h := range b.hands {
		list = append(list, h.events...)
	}
	return list
}

// settle brings back, alone, what could be asked for still when its workers trimmed last.
func settle(p Plan, m Map) {
	for part := range p.Parts {
		m.Trim(nil, part)
	}
	m.Advance(nil)
	m.Advance(nil)
	m.Collect(nil)
}
