package store

import (
	"skein/api"
	"skein/crew"
)

// The kinds of Play's calls.
const (
	kindGet = iota + 1
	kindPut
	kindDrop
	kindSwap
	kindMany
	kindSnap
	kindFree
	kindPeek
	kindName
	kindUnname
	kindPeekNamed
	kindTrim
	kindAdvance
	kindCollect
	kindNames
)

// call does a call of a Play.
type call func(w *crew.Worker, x api.Call) api.Answer

// registers: a worker's own snapshots; one without a stamp is none, as a stamp is 1 at least.
type registers [api.MaxRegs]api.Snap

// Calls: what does a Play's calls over a map.
type Calls struct {
	store *Store
	owns  [api.MaxWorkers]registers
	table []call // by kind
}

// NewCalls makes it, with empty registers.
func NewCalls(s *Store) *Calls {
	c := &Calls{store: s}
	c.table = c.byKind()
	return c
}

// byKind tells what each kind's call does.
func (c *Calls) byKind() []call {
	return []call{
		kindGet:       c.get,
		kindPut:       c.put,
		kindDrop:      c.drop,
		kindSwap:      c.swap,
		kindMany:      c.many,
		kindSnap:      c.snap,
		kindFree:      c.free,
		kindPeek:      c.peek,
		kindName:      c.name,
		kindUnname:    c.unname,
		kindPeekNamed: c.peekNamed,
		kindTrim:      c.trim,
		kindAdvance:   c.advance,
		kindCollect:   c.collect,
		kindNames:     c.names,
	}
}

// Do does a call.
func (c *Calls) Do(w *crew.Worker, x api.Call) api.Answer {
	if x.Kind < 1 || x.Kind >= len(c.table) {
		return failed(refused(w, api.ErrStoreCall))
	}
	return c.table[x.Kind](w, x)
}

func (c *Calls) get(w *crew.Worker, x api.Call) api.Answer { return toldRead(c.store.Get(w, x.A)) }

func (c *Calls) put(w *crew.Worker, x api.Call) api.Answer {
	return toldWrite(c.store.Put(w, x.A, x.B))
}

func (c *Calls) drop(w *crew.Worker, x api.Call) api.Answer { return toldWrite(c.store.Drop(w, x.A)) }

func (c *Calls) swap(w *crew.Worker, x api.Call) api.Answer {
	return toldWrite(c.store.Swap(w, x.A, x.B, x.C))
}

func (c *Calls) many(w *crew.Worker, x api.Call) api.Answer {
	return toldMany(c.store.Many(w, x.Pairs))
}

func (c *Calls) unname(w *crew.Worker, x api.Call) api.Answer {
	return toldNumber(0, c.store.Unname(w, x.A))
}

func (c *Calls) peekNamed(w *crew.Worker, x api.Call) api.Answer {
	return toldRead(c.store.PeekNamed(w, x.A, x.B))
}

func (c *Calls) trim(w *crew.Worker, x api.Call) api.Answer { return toldNumber(c.store.Trim(w, x.A)) }

func (c *Calls) advance(w *crew.Worker, x api.Call) api.Answer {
	return api.Answer{Ok: c.store.Advance(w)}
}

func (c *Calls) collect(w *crew.Worker, x api.Call) api.Answer { return toldNumber(c.store.Collect(w)) }

func (c *Calls) names(w *crew.Worker, x api.Call) api.Answer {
	return api.Answer{Ok: true, Pairs: c.store.Names(w)}
}

func failed(err api.Errno) api.Answer { return api.Answer{Err: err} }

// toldNumber: an answer that tells a number; it is 0 beside an error.
func toldNumber(n int, err api.Errno) api.Answer {
	return api.Answer{Ok: err == api.OK, N: n, Err: err}
}

func toldRead(t api.Told, err api.Errno) api.Answer {
	return api.Answer{Ok: t.Had, N: t.Value, M: t.Number, Err: err}
}

func toldMany(t api.Told, err api.Errno) api.Answer {
	return api.Answer{Ok: t.New, N: t.Many, M: t.Number, Err: err}
}

func toldWrite(t api.Told, err api.Errno) api.Answer {
	if err != api.OK {
		return failed(err)
	}
	had := 0
	if t.Had {
		had = 1
	}
	return api.Answer{Ok: t.New, N: t.Value, M: t.Number, Ints: []int{had}}
}
