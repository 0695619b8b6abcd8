package part

import (
	"skein/api"
	"skein/chain"
	"skein/clock"
	"skein/crew"
	"skein/epoch"
	"skein/load"
	"skein/pool"
	"skein/word"
)

// The kinds of Play's calls.
const (
	kindGet = iota + 1
	kindPut
	kindDrop
	kindSwap
	kindMany
	kindAdvance
	kindCollect
	kindEnter
	kindLeave
)

// Play does a case.
func Play(s api.Setup, c api.Case) (api.Run, [][]int, api.Errno) {
	p, err := pool.New(s.Slots)
	if err != api.OK {
		return api.Run{}, nil, err
	}
	k, err := clock.New(s.Leases)
	if err != api.OK {
		return api.Run{}, nil, err
	}
	if s.Parts < 1 || s.Parts > api.MaxParts {
		return api.Run{}, nil, api.ErrLoadPart
	}
	d := newCalls(s, p, k)
	run, err := crew.Run(c, d)
	if err != api.OK {
		return api.Run{}, nil, err
	}
	return run, d.rows(), api.OK
}

// calls: what a run's calls go by.
type calls struct {
	pool  *pool.Pool
	epoch *epoch.Epoch
	parts []*Part
}

// newCalls makes all parts of a setup, over a pool and a clock.
func newCalls(s api.Setup, p *pool.Pool, k *clock.Clock) calls {
	chains := make([]*chain.Chain, s.Parts)
	for i := range chains {
		chains[i] = chain.New(p, k)
	}
	d := calls{pool: p, epoch: epoch.New(p, s.Workers)}
	l := load.New(p, chains, s.Source, s.Fails)
	for i, x := range chains {
		d.parts = append(d.parts, New(i, s.Parts, p, d.epoch, x, l))
	}
	return d
}

// rows: what is told at the end.
func (d calls) rows() [][]int {
	list := [][]int{{d.epoch.Now(), len(d.pool.Free()), d.pool.Faults()}}
	for _, a := range d.parts {
		list = append(list, a.row())
	}
	return list
}

// row tells the newest version: its number, its stamp, and what it holds. Nothing that a version has is ever given back here, so no error is met.
func (a *Part) row() []int {
	versions := a.Versions()
	if len(versions) == 0 {
		return nil
	}
	n, _ := a.pool.Read(nil, versions[0])
	stamp, _ := a.pool.Mark(nil, versions[0])
	row := []int{n.B, stamp}
	for pair := range a.trie.Walk(nil, n.A, 0, api.MaxKey) {
		row = append(row, pair.Key, pair.Value)
	}
	return row
}

// Do does a call of a run.
func (d calls) Do(w *crew.Worker, c api.Call) api.Answer {
	switch c.Kind {
	case kindGet, kindPut, kindDrop, kindSwap, kindMany:
		return d.ofPart(w, c)
	case kindAdvance:
		return api.Answer{Ok: d.epoch.Advance(w)}
	case kindCollect:
		n, err := d.epoch.Collect(w)
		return api.Answer{Ok: err == api.OK, N: n, Err: err}
	case kindEnter:
		return went(d.epoch.Enter(w))
	case kindLeave:
		return went(d.epoch.Leave(w))
	}
	return failed(w, api.ErrPartCall)
}

func went(err api.Errno) api.Answer { return api.Answer{Ok: err == api.OK, Err: err} }

// failed is a line without an access.
func failed(w *crew.Worker, err api.Errno) api.Answer {
	w.Step()
	return api.Answer{Err: err}
}

// ofPart does a call of the part to which it goes by its key.
func (d calls) ofPart(w *crew.Worker, c api.Call) api.Answer {
	i, err := word.Part(keyOf(c), len(d.parts))
	if err != api.OK {
		return failed(w, api.ErrPartKey)
	}
	a := d.parts[i]
	switch c.Kind {
	case kindGet:
		return toldGet(a.Get(w, c.A))
	case kindPut:
		return toldWrite(a.Put(w, c.A, c.B))
	case kindDrop:
		return toldWrite(a.Drop(w, c.A))
	case kindSwap:
		return toldWrite(a.Swap(w, c.A, c.B, c.C))
	}
	return toldMany(a.Many(w, c.Pairs))
}

// keyOf tells the key by which a call finds its part; a Many of no pairs goes to the least one's.
func keyOf(c api.Call) int {
	if c.Kind != kindMany {
		return c.A
	}
	if len(c.Pairs) == 0 {
		return 0
	}
	return c.Pairs[0].Key
}

func toldGet(t api.Told, err api.Errno) api.Answer {
	return api.Answer{Ok: t.Had, N: t.Value, M: t.Number, Err: err}
}

func toldMany(t api.Told, err api.Errno) api.Answer {
	return api.Answer{Ok: t.New, N: t.Many, M: t.Number, Err: err}
}

func toldWrite(t api.Told, err api.Errno) api.Answer {
	if err != api.OK {
		return api.Answer{Err: err}
	}
	had := 0
	if t.Had {
		had = 1
	}
	return api.Answer{Ok: t.New, N: t.Value, M: t.Number, Ints: []int{had}}
}
