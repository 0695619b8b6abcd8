package crew

import (
	"sync/atomic"

	"skein/api"
)

// maxLines: how many lines a call of a drill may have.
const maxLines = 64

// drill: plain calls over a number that all workers share.
type drill struct{ number atomic.Int64 }

// Drill runs a case of plain calls.
func Drill(c api.Case) (api.Run, api.Errno) { return Run(c, &drill{}) }

// Rush does them without turns: the number at the end.
func Rush(c api.Case) (int, api.Errno) {
	d := &drill{}
	if _, err := Loose(c, d); err != api.OK {
		return 0, err
	}
	return int(d.number.Load()), api.OK
}

// Do does a call of a drill.
func (d *drill) Do(w *Worker, c api.Call) api.Answer {
	counts := c.A >= 1 && c.A <= maxLines
	switch {
	case c.Kind == 1 && counts:
		lines(w, c.A)
		return api.Answer{Ok: true, N: c.A}
	case c.Kind == 2:
		w.Step()
		return api.Answer{Ok: true, N: d.add(c.A)}
	case c.Kind == 3 && counts:
		lines(w, c.A)
		panic(api.ErrCrewFell)
	}
	w.Step()
	return api.Answer{Err: api.ErrCrewCall}
}

// add tells what the number was.
func (d *drill) add(n int) int { return int(d.number.Add(int64(n))) - n }

func lines(w *Worker, count int) {
	for range count {
		w.Step()
	}
}
