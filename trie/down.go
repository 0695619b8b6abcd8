package trie

import (
	"slices"

	"skein/api"
	"skein/crew"
)

// step: an inner node that was gone through, and to which side.
type step struct {
	handle int
	node   inner
	side   int
}

// descent: the way down by a key, from the root on, and where it ended.
type descent struct {
	way []step
	end spot
}

// down goes down by a key; the root isn't 0.
func (t *Trie) down(w *crew.Worker, root, key int) (descent, api.Errno) {
	var d descent
	s := rootSpot(root)
	for {
		var err api.Errno
		if s, err = t.read(w, s); err != api.OK {
			return descent{}, err
		}
		n, ok := s.node.(inner)
		if !ok || !n.span().has(key) {
			d.end = s
			return d, api.OK
		}
		side := n.side(key)
		d.way = append(d.way, step{s.handle, n, side})
		s = n.child(side)
	}
}

// find tells the value of the key, if it ended at that key's leaf.
func (d descent) find(key int) (int, bool) {
	switch n := d.end.node.(type) {
	case leaf:
		if n.key == key {
			return n.value, true
		}
	}
	return 0, false
}

// rank tells how many keys are below the key.
func (d descent) rank(key int) int {
	below := d.end.node.count()
	rank := 0
	if d.end.node.span().last < key {
		rank = below
	}
	for _, s := range slices.Backward(d.way) {
		if s.side == 1 {
			rank += s.node.keys - below
		}
		below = s.node.keys
	}
	return rank
}

// from tells where the least key stands that isn't below the key; false, if there is none.
func (d descent) from(key int) (spot, bool) {
	if d.end.node.span().first >= key {
		return d.end, true
	}
	for _, s := range slices.Backward(d.way) {
		if s.side == 0 {
			return s.node.child(1), true
		}
	}
	return spot{}, false
}

// leftmost tells the pair of the least key from a spot on downwards.
func (t *Trie) leftmost(w *crew.Worker, s spot) (api.Pair, api.Errno) {
	for {
		var err api.Errno
		if s, err = t.read(w, s); err != api.OK {
			return api.Pair{}, err
		}
		switch n := s.node.(type) {
		case leaf:
			return n.pair(), api.OK
		case inner:
			s = n.child(0)
		}
	}
}

// nth tells the pair with i keys below its own, of those from a spot on downwards.
func (t *Trie) nth(w *crew.Worker, s spot, i int) (api.Pair, api.Errno) {
	for {
		var err api.Errno
		if s, err = t.read(w, s); err != api.OK {
			return api.Pair{}, err
		}
		switch n := s.node.(type) {
		case leaf:
			return n.pair(), api.OK
		case inner:
			if s, err = t.read(w, n.child(0)); err != api.OK {
				return api.Pair{}, err
			}
			if left := s.node.count(); left <= i {
				s, i = n.child(1), i-left
			}
		}
	}
}
