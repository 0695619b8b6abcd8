package scan

import (
	"iter"

	"skein/api"
	"skein/crew"
	"skein/store"
)

// lastOfMap: the last kind of the map's own calls.
const lastOfMap = 15

// The kinds of Play's calls behind those.
const (
	kindRange = iota + lastOfMap + 1
	kindCount
	kindPage
	kindDiff
)

// Play does a case over a map and its scans.
func Play(s api.Setup, c api.Case) (api.Run, [][]int, api.Errno) {
	m, err := store.New(s)
	if err != api.OK {
		return api.Run{}, nil, err
	}
	d := calls{store.NewCalls(m), m}
	run, err := crew.Run(c, d)
	if err != api.OK {
		return api.Run{}, nil, err
	}
	return run, d.Rows(), api.OK
}

// calls: what does a Play's calls: the map's, and scans by the same registers.
type calls struct {
	*store.Calls
	store *store.Store
}

// Do does a call.
func (c calls) Do(w *crew.Worker, x api.Call) api.Answer {
	switch x.Kind {
	case kindRange, kindCount, kindPage, kindDiff:
		return c.scan(w, x)
	}
	if x.Kind < 1 || x.Kind > lastOfMap {
		return failed(idle(w, api.ErrScanCall))
	}
	return c.Calls.Do(w, x)
}

// scan does a call by the snapshot of a register, or of two.
func (c calls) scan(w *crew.Worker, x api.Call) api.Answer {
	a, err := c.Register(w, x.A)
	if err != api.OK {
		return failed(idle(w, err))
	}
	switch x.Kind {
	case kindRange:
		return toldPairs(Range(c.store, w, a, x.B, x.C))
	case kindCount:
		n, err := Count(c.store, w, a, x.B, x.C)
		return api.Answer{Ok: err == api.OK, N: n, Err: err}
	case kindPage:
		list, more, err := Page(c.store, w, a, x.B, x.C)
		return api.Answer{Ok: more, N: len(list), Err: err, Pairs: list}
	}
	b, err := c.Register(w, x.B)
	if err != api.OK {
		return failed(idle(w, err))
	}
	return toldChanges(Diff(c.store, w, a, b))
}

func failed(err api.Errno) api.Answer { return api.Answer{Err: err} }

// toldPairs tells what a Range gives; beside an error what came ahead of it.
func toldPairs(given iter.Seq2[api.Pair, api.Errno]) api.Answer {
	var list []api.Pair
	for pair, err := range given {
		if err != api.OK {
			return api.Answer{Err: err, Pairs: list}
		}
		list = append(list, pair)
	}
	return api.Answer{Ok: true, Pairs: list}
}

// toldChanges tells what a Diff gives; beside an error what came ahead of it.
func toldChanges(given iter.Seq2[api.Change, api.Errno]) api.Answer {
	var list []int
	for x, err := range given {
		if err != api.OK {
			return api.Answer{Err: err, Ints: list}
		}
		list = append(list, x.Key, bit(x.Had), x.Old, bit(x.Has), x.New)
	}
	return api.Answer{Ok: true, Ints: list}
}

func bit(b bool) int {
	if b {
		return 1
	}
	return 0
}
