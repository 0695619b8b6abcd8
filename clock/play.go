package clock

import (
	"skein/api"
	"skein/crew"
)

// The kinds of Play's calls.
const (
	kindTake = iota + 1
	kindRelease
	kindLeast
	kindNow
	kindHolds
	kindReleaseLease
)

// Play runs a case over a new clock.
func Play(leases int, c api.Case) (api.Run, [][]int, api.Errno) {
	clock, err := New(leases)
	if err != api.OK {
		return api.Run{}, nil, err
	}
	run, err := crew.Run(c, &calls{clock: clock})
	if err != api.OK {
		return api.Run{}, nil, err
	}
	return run, [][]int{{int(clock.now.Load())}, clock.Leases()}, api.OK
}

// registers: a worker's own snapshots; one without a stamp is none, as a stamp is 1 at least.
type registers [api.MaxRegs]api.Snap

// calls: what a run's calls go by.
type calls struct {
	clock *Clock
	owns  [api.MaxWorkers]registers
}

// Do does a call of a run.
func (p *calls) Do(w *crew.Worker, c api.Call) api.Answer {
	switch c.Kind {
	case kindTake, kindRelease, kindHolds:
		return p.byRegister(w, c)
	case kindLeast:
		return api.Answer{Ok: true, N: p.clock.Least(w)}
	case kindNow:
		return api.Answer{Ok: true, N: p.clock.Now(w)}
	case kindReleaseLease:
		return told(p.clock.Release(w, c.A))
	}
	return refused(w, api.ErrClockCall)
}

// byRegister does a call that goes by a register.
func (p *calls) byRegister(w *crew.Worker, c api.Call) api.Answer {
	if c.A < 0 || c.A >= api.MaxRegs {
		return refused(w, api.ErrClockCall)
	}
	snap := &p.owns[w.Number()][c.A]
	isEmpty := snap.Stamp == 0
	switch {
	case c.Kind == kindTake && !isEmpty:
		return refused(w, api.ErrClockCall)
	case c.Kind == kindTake:
		return p.take(w, snap)
	case isEmpty:
		return refused(w, api.ErrClockLease)
	case c.Kind == kindRelease:
		err := p.clock.Release(w, snap.Lease)
		*snap = api.Snap{}
		return told(err)
	}
	return api.Answer{Ok: p.clock.Holds(w, *snap)}
}

// take takes a lease into a register.
func (p *calls) take(w *crew.Worker, snap *api.Snap) api.Answer {
	s, err := p.clock.Take(w)
	if err != api.OK {
		return api.Answer{Err: err}
	}
	*snap = s
	return api.Answer{Ok: true, N: s.Lease, M: s.Stamp}
}

// refused is a line without an access.
func refused(w *crew.Worker, err api.Errno) api.Answer {
	w.Step()
	return api.Answer{Err: err}
}

func told(err api.Errno) api.Answer { return api.Answer{Ok: err == api.OK, Err: err} }
