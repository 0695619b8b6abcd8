package post

import (
	"skein/api"
	"skein/crew"
)

// First takes from the first box that holds something.
func First(w *crew.Worker, l ...*Box) (int, int, api.Errno) {
	w.Step()
	// No two gates are locked at once, or two Firsts might wait for each other; so it begins anew, if a box that was passed over was changed.
	for {
		passed, err := passOver(l)
		place := len(passed)
		if place == len(l) {
			if unchanged(l, passed) {
				return 0, 0, err
			}
			continue
		}
		if v, ok := l[place].takeBehind(l, passed); ok {
			return place, v, api.OK
		}
	}
}

// passOver tells of the boxes ahead of the first one that holds something how often each was changed till it was seen empty, and what is wrong if there are no others.
func passOver(l []*Box) ([]int64, api.Errno) {
	passed := make([]int64, 0, len(l))
	err := api.ErrPostClosed
	for _, b := range l {
		changes, state := b.seen()
		if state == api.OK {
			break
		}
		if state == api.ErrPostEmpty {
			err = state
		}
		passed = append(passed, changes)
	}
	return passed, err
}

// seen tells how often a box was changed, and what a Take would answer beside a value.
func (b *Box) seen() (int64, api.Errno) {
	if b == nil {
		return 0, api.ErrPostClosed
	}
	b.gate.Lock()
	defer b.gate.Unlock()
	switch {
	case len(b.values) > 0:
		return 0, api.OK
	case b.closed:
		return b.changes.Load(), api.ErrPostClosed
	}
	return b.changes.Load(), api.ErrPostEmpty
}

// unchanged tells whether the boxes that were passed over are as they were: then there was a moment at which all of them were.
func unchanged(l []*Box, passed []int64) bool {
	for i, changes := range passed {
		if l[i] != nil && l[i].changes.Load() != changes {
			return false
		}
	}
	return true
}

// takeBehind takes, if the boxes ahead are empty still while nobody else gets at this one.
func (b *Box) takeBehind(ahead []*Box, passed []int64) (int, bool) {
	b.gate.Lock()
	defer b.gate.Unlock()
	if !unchanged(ahead, passed) {
		return 0, false
	}
	v, err := b.take()
	return v, err == api.OK
}
