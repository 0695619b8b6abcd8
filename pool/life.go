package pool

import (
	"sync/atomic"

	"skein/api"
)

// life: what a slot is as long as its generation stays. Another generation gets a life of its own, so that one access of a slot meets its generation and all that goes with it, and who met this one touches nothing of the next.
type life struct {
	gen        int
	node       api.Node
	mark, link atomic.Int64
}

func newLife(gen int, x api.Node, mark, link int) *life {
	l := &life{gen: gen, node: x}
	l.mark.Store(int64(mark))
	l.link.Store(int64(link))
	return l
}

// given: the life of a slot that was given back.
func given(gen int) *life {
	const q = api.Poison
	return newLife(gen, api.Node{A: q, B: q, C: q, D: q}, q, q)
}

// again: the same of another generation.
func (l *life) again(gen int) *life {
	s := l.told()
	return newLife(gen, s.Node, s.Mark, s.Link)
}

// told: what is told of a slot.
func (l *life) told() api.Slot {
	return api.Slot{Gen: l.gen, Node: l.node, Mark: int(l.mark.Load()), Link: int(l.link.Load())}
}
