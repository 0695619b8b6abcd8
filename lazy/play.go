package lazy

import (
	"skein/api"
	"skein/crew"
)

// The kinds of Play's calls.
const (
	kindOnce = iota + 1
	kindRetry
	kindPlace
	kindAll
	kindMade
	kindOnceDone
	kindRetryDone
)

// What is made of each maker, in the order of an api.Made.
const (
	asOnce = iota
	asRetry
	inTable
	ways
)

// Play does a case.
func Play(makers []api.Maker, c api.Case) (api.Run, []api.Made, api.Errno) {
	p, err := newCalls(makers)
	if err != api.OK {
		return api.Run{}, nil, err
	}
	run, err := crew.Run(c, p)
	if err != api.OK {
		return api.Run{}, nil, err
	}
	return run, p.made(), api.OK
}

// maker: one that is told by an api.Maker, and how often it was called.
type maker struct {
	told  api.Maker
	calls int
}

func (m *maker) ask() (int, bool) {
	m.calls++
	switch {
	case m.calls > m.told.Fails:
		return m.told.Value, true
	case m.told.Falls:
		panic("the maker falls")
	}
	return 0, false
}

// value: a Once or a Retry.
type value interface {
	Get(w *crew.Worker) (int, api.Errno)
	Done(w *crew.Worker) bool
}

// calls: what a run's calls go by.
type calls struct {
	makers [ways][]*maker
	values [ways][]value
	table  *Table
}

func newCalls(list []api.Maker) (*calls, api.Errno) {
	p := &calls{}
	table, err := NewTable(len(list), func(i int) (int, bool) { return p.makers[inTable][i].ask() })
	if err != api.OK {
		return nil, err
	}
	p.table = table
	for i, told := range list {
		for k := range ways {
			p.makers[k] = append(p.makers[k], &maker{told: told})
		}
		p.values[asOnce] = append(p.values[asOnce], NewOnce(p.makers[asOnce][i].ask))
		p.values[asRetry] = append(p.values[asRetry], NewRetry(p.makers[asRetry][i].ask))
		p.values[inTable] = append(p.values[inTable], table.onces[i])
	}
	return p, api.OK
}

// made tells what came of the makers when nobody is at work any more.
func (p *calls) made() []api.Made {
	list := make([]api.Made, len(p.table.onces))
	for i := range list {
		for k := range ways {
			list[i].Calls[k] = p.makers[k][i].calls
			// A Get of what isn't made would call its maker.
			if v := p.values[k][i]; v.Done(nil) {
				list[i].Done[k] = true
				list[i].Values[k], _ = v.Get(nil)
			}
		}
	}
	return list
}

// Do does a call of a run.
func (p *calls) Do(w *crew.Worker, c api.Call) api.Answer {
	switch c.Kind {
	case kindOnce:
		return get(w, p.values[asOnce], c.A)
	case kindRetry:
		return get(w, p.values[asRetry], c.A)
	case kindPlace:
		v, err := p.table.Get(w, c.A)
		return api.Answer{N: v, Err: err}
	case kindAll:
		list, err := p.table.All(w)
		return api.Answer{Ints: list, Err: err}
	case kindMade:
		return api.Answer{Ints: p.table.Made(w)}
	case kindOnceDone:
		return done(w, p.values[asOnce], c.A)
	case kindRetryDone:
		return done(w, p.values[asRetry], c.A)
	}
	return refused(w, api.ErrLazyCall)
}

func get(w *crew.Worker, list []value, place int) api.Answer {
	if place < 0 || place >= len(list) {
		return refused(w, api.ErrLazyMaker)
	}
	v, err := list[place].Get(w)
	return api.Answer{N: v, Err: err}
}

func done(w *crew.Worker, list []value, place int) api.Answer {
	if place < 0 || place >= len(list) {
		return refused(w, api.ErrLazyMaker)
	}
	return api.Answer{Ok: list[place].Done(w)}
}

// refused: a call that can't be has a line as well.
func refused(w *crew.Worker, err api.Errno) api.Answer {
	w.Step()
	return api.Answer{Err: err}
}
