package trim

import (
	"skein/api"
	"skein/chain"
	"skein/clock"
	"skein/crew"
	"skein/epoch"
	"skein/pool"
)

// registers: a worker's own snapshots; one without a stamp is none, as a stamp is 1 at least.
type registers [api.MaxRegs]api.Snap

// cell: a value in versions, and the workers' snapshots of it.
type cell struct {
	pool  *pool.Pool
	clock *clock.Clock
	epoch *epoch.Epoch
	chain *chain.Chain
	owns  [api.MaxWorkers]registers
}

func newCell(p *pool.Pool, k *clock.Clock, workers int) *cell {
	return &cell{pool: p, clock: k, epoch: epoch.New(p, workers), chain: chain.New(p, k)}
}

// within does something between Enter and Leave: what is gone by stays as long, and whatever comes of it, the worker leaves.
func (d *cell) within(w *crew.Worker, do func() api.Answer) api.Answer {
	if err := d.epoch.Enter(w); err != api.OK {
		return failed(err)
	}
	defer d.epoch.Leave(w)
	return do()
}

// store takes a slot for a value, which lay publishes; else the slot is given back.
func (d *cell) store(w *crew.Worker, value int, lay func(v int) api.Errno) api.Answer {
	v, err := d.pool.Take(w, api.Node{A: value}, 0)
	if err != api.OK {
		return failed(err)
	}
	if err := lay(v); err != api.OK {
		d.pool.Give(w, v)
		return failed(err)
	}
	return api.Answer{Ok: true}
}

// begin lays the first version.
func (d *cell) begin(w *crew.Worker, value int) api.Answer {
	return d.store(w, value, func(v int) api.Errno {
		_, err := d.chain.First(w, api.Node{A: v})
		return err
	})
}

// write lays a version upon the newest one.
func (d *cell) write(w *crew.Worker, value int) api.Answer {
	return d.within(w, func() api.Answer {
		return d.store(w, value, func(v int) api.Errno { return d.publish(w, v) })
	})
}

// publish goes round as long as others publish in between.
func (d *cell) publish(w *crew.Worker, v int) api.Errno {
	for {
		h, _, err := d.chain.Top(w)
		if err != api.OK {
			return err
		}
		old, err := d.pool.Read(w, h)
		if err != api.OK {
			return err
		}
		// The newer version does without the older one's value: it goes when that version is cut off.
		_, done, err := d.chain.Push(w, h, api.Node{A: v}, []int{old.A})
		if done || err != api.OK {
			return err
		}
	}
}

// read tells the newest version's value, and its stamp.
func (d *cell) read(w *crew.Worker) api.Answer {
	return d.within(w, func() api.Answer {
		h, stamp, err := d.chain.Top(w)
		if err != api.OK {
			return failed(err)
		}
		value, err := d.valueOf(w, h)
		if err != api.OK {
			return failed(err)
		}
		return api.Answer{Ok: true, N: value, M: stamp}
	})
}

// peek tells the value that a snapshot shows. It needn't enter: as long as the lease is held nobody cuts off what it goes by.
func (d *cell) peek(w *crew.Worker, s api.Snap) api.Answer {
	h, err := d.chain.At(w, s.Stamp)
	if err != api.OK {
		return failed(err)
	}
	return toldNumber(d.valueOf(w, h))
}

// valueOf tells a version's value.
func (d *cell) valueOf(w *crew.Worker, h int) (int, api.Errno) {
	version, err := d.pool.Read(w, h)
	if err != api.OK {
		return 0, err
	}
	value, err := d.pool.Read(w, version.A)
	return value.A, err
}
