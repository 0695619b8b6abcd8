package post

import (
	"skein/api"
	"skein/crew"
)

// The kinds of Play's calls.
const (
	kindSend = iota + 1
	kindTake
	kindClose
	kindLen
	kindDrain
	kindFirst
)

// Play does a case.
func Play(rooms []int, c api.Case) (api.Run, [][]int, api.Errno) {
	p, err := newBoxes(rooms)
	if err != api.OK {
		return api.Run{}, nil, err
	}
	run, err := crew.Run(c, p)
	if err != api.OK {
		return api.Run{}, nil, err
	}
	return run, p.empty(), api.OK
}

// boxes: what a run's calls go by.
type boxes []*Box

func newBoxes(rooms []int) (boxes, api.Errno) {
	if len(rooms) == 0 || len(rooms) > api.MaxRoom {
		return nil, api.ErrPostRoom
	}
	p := make(boxes, len(rooms))
	for i, room := range rooms {
		b, err := New(room)
		if err != api.OK {
			return nil, err
		}
		p[i] = b
	}
	return p, api.OK
}

// empty takes what the boxes hold when nobody is at work any more.
func (p boxes) empty() [][]int {
	left := make([][]int, len(p))
	for i, b := range p {
		left[i] = b.Drain(nil)
	}
	return left
}

// Do does a call of a run.
func (p boxes) Do(w *crew.Worker, c api.Call) api.Answer {
	if !p.has(c.A) || c.Kind == kindFirst && !p.has(c.B) {
		return refused(w)
	}
	switch b := p[c.A]; c.Kind {
	case kindSend:
		return api.Answer{Err: b.Send(w, c.B)}
	case kindTake:
		v, err := b.Take(w)
		return api.Answer{N: v, Err: err}
	case kindClose:
		return api.Answer{Err: b.Close(w)}
	case kindLen:
		return api.Answer{N: b.Len(w)}
	case kindDrain:
		return api.Answer{Ints: b.Drain(w)}
	case kindFirst:
		place, v, err := First(w, b, p[c.B])
		return api.Answer{N: place, M: v, Err: err}
	}
	return refused(w)
}

// has tells whether a number is a box's place.
func (p boxes) has(place int) bool { return place >= 0 && place < len(p) }

// refused: a call that can't be has a line as well.
func refused(w *crew.Worker) api.Answer {
	w.Step()
	return api.Answer{Err: api.ErrPostCall}
}
