package store

import (
	"skein/api"
	"skein/crew"
)

// register tells a worker's register; nil: there is no such one.
func (c *Calls) register(w *crew.Worker, a int) *api.Snap {
	if a < 0 || a >= api.MaxRegs {
		return nil
	}
	return &c.owns[w.Number()][a]
}

// held tells a register that holds a snapshot.
func (c *Calls) held(w *crew.Worker, a int) (*api.Snap, api.Errno) {
	r := c.register(w, a)
	if r == nil {
		return nil, api.ErrStoreCall
	}
	if *r == (api.Snap{}) {
		return nil, api.ErrStoreSnap
	}
	return r, api.OK
}

// Register tells what a register holds.
func (c *Calls) Register(w *crew.Worker, a int) (api.Snap, api.Errno) {
	r, err := c.held(w, a)
	if err != api.OK {
		return api.Snap{}, err
	}
	return *r, api.OK
}

// snap takes a snapshot into a register.
func (c *Calls) snap(w *crew.Worker, x api.Call) api.Answer {
	r := c.register(w, x.A)
	if r == nil || *r != (api.Snap{}) {
		return failed(refused(w, api.ErrStoreCall))
	}
	s, err := c.store.Snap(w)
	if err != api.OK {
		return failed(err)
	}
	*r = s
	return api.Answer{Ok: true, N: s.Lease, M: s.Stamp}
}

// free lets a register's snapshot go.
func (c *Calls) free(w *crew.Worker, x api.Call) api.Answer {
	r, err := c.held(w, x.A)
	if err != api.OK {
		return failed(refused(w, err))
	}
	err = c.store.Free(w, *r)
	*r = api.Snap{}
	return toldNumber(0, err)
}

// peek tells a key's value by a register's snapshot.
func (c *Calls) peek(w *crew.Worker, x api.Call) api.Answer {
	r, err := c.held(w, x.A)
	if err != api.OK {
		return failed(refused(w, err))
	}
	return toldRead(c.store.Peek(w, *r, x.B))
}

// name gives a register's snapshot a name; the lease is the name's then, so the register has it no more.
func (c *Calls) name(w *crew.Worker, x api.Call) api.Answer {
	r, err := c.held(w, x.B)
	if err != api.OK {
		return failed(refused(w, err))
	}
	err = c.store.Name(w, x.A, *r)
	if err == api.OK {
		*r = api.Snap{}
	}
	return toldNumber(0, err)
}
