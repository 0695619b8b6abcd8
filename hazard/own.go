package hazard

import (
	"slices"
	"sync/atomic"

	"skein/api"
	"skein/crew"
)

// own: what one worker alone changes. Its hazards are loaded by all.
type own struct {
	hazards [api.MaxHazards]atomic.Int64 // of each a handle, or 0
	waits   []int                        // handles that it took off, in that order
}

// name is a line: the hazard holds the handle; 0: it names nothing.
func (o *own) name(w *crew.Worker, i, h int) {
	w.Step()
	o.hazards[i].Store(int64(h))
}

// named tells what a hazard holds.
func (o *own) named(i int) int { return int(o.hazards[i].Load()) }

// tookOff lets a handle wait that stood in a root; 0 is none.
func (o *own) tookOff(h int) {
	if h != 0 {
		o.waits = append(o.waits, h)
	}
}

// free tells the first place, from this one on, of a handle that wasn't met; that behind the list, if there is none.
func (o *own) free(met map[int]struct{}, from int) int {
	for at := from; at < len(o.waits); at++ {
		if _, named := met[o.waits[at]]; !named {
			return at
		}
	}
	return len(o.waits)
}

// takeOut takes one out of the list, by its place.
func (o *own) takeOut(at int) int {
	h := o.waits[at]
	o.waits = slices.Delete(o.waits, at, at+1)
	return h
}

func (o *own) waiting() []int { return slices.Clone(o.waits) }
