package gust

import (
	"skein/api"
	"skein/crew"
	"skein/tally"
)

// hand: what a worker does its calls with; its events, and how many handles of its wait, are its own.
type hand struct {
	plan    Plan
	over    Map
	times   *tally.Ticket
	events  []api.Event
	waiting int
}

// round does the round j.
func (h *hand) round(w *crew.Worker, j int) {
	k := w.Number()
	for i := range h.plan.Keys {
		h.write(w, h.plan.Key(k, i), h.plan.Number(j, k, i))
	}
	h.read(w, h.plan.Key(h.plan.next(k), 0))
	h.look(w)
	h.sweep(w)
}

// write drops a key, or puts v.
func (h *hand) write(w *crew.Worker, key, v int) {
	var told api.Told
	e, ok := h.timed(w, func() (err api.Errno) {
		if Drops(v) {
			told, err = h.over.Drop(w, key)
		} else {
			told, err = h.over.Put(w, key, v)
		}
		return err
	})
	if !ok {
		return
	}
	h.ofKey(&e, key, told)
	e.Kind = api.Same
	if told.New {
		e.Kind = api.Write
		if !Drops(v) {
			e.Has, e.New = true, v
		}
	}
	h.events = append(h.events, e)
}

func (h *hand) read(w *crew.Worker, key int) {
	var told api.Told
	e, ok := h.timed(w, func() (err api.Errno) {
		told, err = h.over.Get(w, key)
		return err
	})
	if !ok {
		return
	}
	h.ofKey(&e, key, told)
	e.Kind = api.Read
	h.events = append(h.events, e)
}

// ofKey lays down what a call told of a key.
func (h *hand) ofKey(e *api.Event, key int, told api.Told) {
	e.Part, e.Key, e.Number = h.plan.part(key), key, told.Number
	e.Had, e.Value = told.Had, told.Value
}

// look takes a snapshot, asks which version of each part it shows, and lets it go.
func (h *hand) look(w *crew.Worker) {
	var x api.Snap
	e, ok := h.timed(w, func() (err api.Errno) {
		x, err = h.over.Snap(w)
		return err
	})
	if !ok {
		return
	}
	e.Kind = api.Snapshot
	for part := range h.plan.Parts {
		e.Numbers = append(e.Numbers, h.view(w, x, part))
	}
	h.over.Free(w, x)
	h.events = append(h.events, e)
}

// view: the number of the version that a snapshot shows; 0, which the judge blames, if it shows none.
func (h *hand) view(w *crew.Worker, x api.Snap, part int) int {
	for {
		_, number, err := h.over.View(w, x, part)
		if !h.again(w, err) {
			return number
		}
	}
}

// timed does a call till it needn't be done again: an event with that call's times, and whether it answered no error. A try that was refused isn't among its times: the judge looks the harder, the closer they are.
func (h *hand) timed(w *crew.Worker, call func() api.Errno) (api.Event, bool) {
	for {
		e := api.Event{Worker: w.Number(), Begin: h.times.Next(w)}
		err := call()
		e.End = h.times.Next(w)
		if !h.again(w, err) {
			return e, err == api.OK
		}
	}
}

// again tells whether a call that answered err is done again; where the pool is full it makes room first.
func (h *hand) again(w *crew.Worker, err api.Errno) bool {
	if err == api.ErrPoolFull {
		h.sweep(w)
	}
	return err == api.ErrPoolFull || err == api.ErrLoadBusy
}

// sweep lets wait what nobody can ask for any more, and gives back what can be given.
func (h *hand) sweep(w *crew.Worker) {
	for part := range h.plan.Parts {
		n, _ := h.over.Trim(w, part)
		h.waiting += n
	}
	h.collect(w)
}

// collect gives back what has waited long enough; false: it was refused.
func (h *hand) collect(w *crew.Worker) bool {
	h.over.Advance(w)
	n, err := h.over.Collect(w)
	h.waiting -= n
	return err == api.OK
}

// rest goes on till nothing of its waits: nobody else could give that back. (What waits is reckoned: the map's list is asked only while nobody does a call.)
func (h *hand) rest(w *crew.Worker) {
	for h.waiting > 0 {
		if !h.collect(w) {
			return
		}
	}
}
