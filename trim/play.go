package trim

import (
	"skein/api"
	"skein/clock"
	"skein/crew"
	"skein/pool"
)

// The kinds of Play's calls.
const (
	kindBegin = iota + 1
	kindWrite
	kindRead
	kindSnap
	kindFree
	kindPeek
	kindTrim
	kindAdvance
	kindCollect
)

// Play runs a case over a cell with versions.
func Play(slots, workers, leases int, c api.Case) (api.Run, [][]int, api.Errno) {
	p, err := pool.New(slots)
	if err != api.OK {
		return api.Run{}, nil, err
	}
	k, err := clock.New(leases)
	if err != api.OK {
		return api.Run{}, nil, err
	}
	d := newCell(p, k, workers)
	run, err := crew.Run(c, d)
	if err != api.OK {
		return api.Run{}, nil, err
	}
	return run, d.rows(), api.OK
}

// rows: what is told at the end. What a version of the chain has was never retired, so no error is met.
func (d *cell) rows() [][]int {
	list := [][]int{{d.epoch.Now(), len(d.pool.Free()), d.pool.Faults()}, d.clock.Leases()}
	for _, h := range d.chain.Versions() {
		value, _ := d.valueOf(nil, h)
		stamp, _ := d.pool.Mark(nil, h)
		list = append(list, []int{value, stamp})
	}
	return list
}

// Do does a call of a run.
func (d *cell) Do(w *crew.Worker, c api.Call) api.Answer {
	switch c.Kind {
	case kindBegin:
		return d.begin(w, c.A)
	case kindWrite:
		return d.write(w, c.A)
	case kindRead:
		return d.read(w)
	case kindSnap, kindFree, kindPeek:
		return d.byRegister(w, c)
	case kindTrim:
		return toldNumber(Trim(w, d.chain, d.epoch, d.clock))
	case kindAdvance:
		return api.Answer{Ok: d.epoch.Advance(w)}
	case kindCollect:
		return toldNumber(d.epoch.Collect(w))
	}
	return refused(w, api.ErrTrimCall)
}

// byRegister does a call that goes by a register.
func (d *cell) byRegister(w *crew.Worker, c api.Call) api.Answer {
	if c.A < 0 || c.A >= api.MaxRegs {
		return refused(w, noRegister(c.Kind))
	}
	snap := &d.owns[w.Number()][c.A]
	isEmpty := snap.Stamp == 0
	switch {
	case c.Kind == kindSnap && !isEmpty:
		return refused(w, api.ErrClockCall)
	case c.Kind == kindSnap:
		return d.snap(w, snap)
	case isEmpty:
		return refused(w, api.ErrClockLease)
	case c.Kind == kindFree:
		return d.free(w, snap)
	}
	return d.peek(w, *snap)
}

// noRegister: a Snap and a Free are the clock's calls, with its errors.
func noRegister(kind int) api.Errno {
	if kind == kindPeek {
		return api.ErrTrimCall
	}
	return api.ErrClockCall
}

// snap takes a lease into a register.
func (d *cell) snap(w *crew.Worker, snap *api.Snap) api.Answer {
	s, err := d.clock.Take(w)
	if err != api.OK {
		return failed(err)
	}
	*snap = s
	return api.Answer{Ok: true, N: s.Lease, M: s.Stamp}
}

// free lets a register's lease go.
func (d *cell) free(w *crew.Worker, snap *api.Snap) api.Answer {
	err := d.clock.Release(w, snap.Lease)
	*snap = api.Snap{}
	return toldNumber(0, err)
}

// toldNumber: an answer that tells a number; it is 0 beside an error.
func toldNumber(n int, err api.Errno) api.Answer {
	return api.Answer{Ok: err == api.OK, N: n, Err: err}
}

func failed(err api.Errno) api.Answer { return api.Answer{Err: err} }

// refused is a line without an access.
func refused(w *crew.Worker, err api.Errno) api.Answer {
	w.Step()
	return failed(err)
}
