package judge

import (
	"math/bits"

	"skein/api"
)

// places: a set of places in a history of deeds.
type places uint64

func (p places) with(i int) places { return p | 1<<i }

func (p places) has(i int) bool { return p>>i&1 == 1 }

// state: a cell, its deeds that are done (a set of places), and what it holds behind them.
type state [3]int

// search: looks for orders of deeds. Whether the rest can be done is asked of each cell by itself: what stands behind another one in a cell's order didn't end ahead of it, so the cells' orders and the times never make a ring, and can be laid together into one order. So what is tried are states of single cells, which are few, and not of all cells at once, which aren't.
type search struct {
	deeds []api.Deed
	ended places
	ahead [api.MaxDeeds]places // by place: what was ahead of it
	of    [api.MaxCells]places // by cell: its deeds
	tried map[state]int        // 1: it can be gone on to an end
}

func newSearch(l []api.Deed) *search {
	s := &search{deeds: l, tried: map[state]int{}}
	for i, d := range l {
		s.of[d.A] = s.of[d.A].with(i)
		if d.End != 0 {
			s.ended = s.ended.with(i)
		}
		for j, other := range l {
			if wasAhead(other.End, d.Begin) {
				s.ahead[i] = s.ahead[i].with(j)
			}
		}
	}
	return s
}

// least finds the least order, place by place, the cells holding so much at first.
func (s *search) least(held []int) ([]int, bool) {
	var order []int
	var done places
next:
	for s.ended&^done != 0 {
		for i, d := range s.deeds {
			if done.has(i) || s.ahead[i]&^done != 0 {
				continue
			}
			x, fits := s.did(state{d.A, int(done & s.of[d.A]), held[d.A]}, i)
			if fits && s.canEnd(x) {
				order = append(order, i)
				done = done.with(i)
				held[d.A] = x[2]
				continue next
			}
		}
		return nil, false
	}
	return order, true
}

// did tells the state of a cell behind a deed of its own, and whether that answers what it answered.
func (s *search) did(x state, i int) (state, bool) {
	e := alone(s.deeds[i], x[2])
	return state{x[0], int(places(x[1]).with(i)), e.held}, e.fits(s.deeds[i])
}

// canEnd tells whether from that state on all deeds of the cell that have ended can be done.
func (s *search) canEnd(x state) bool {
	own, done := s.of[x[0]], places(x[1])
	if own&s.ended&^done == 0 {
		return true
	}
	if can, known := s.tried[x]; known {
		return can == 1
	}
	can := 0
	for left := own &^ done; left != 0; left &= left - 1 {
		i := bits.TrailingZeros64(uint64(left))
		if s.ahead[i]&own&^done != 0 {
			continue
		}
		if y, fits := s.did(x, i); fits && s.canEnd(y) {
			can = 1
			break
		}
	}
	s.tried[x] = can
	return can == 1
}
