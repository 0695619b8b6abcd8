package trie

import (
	"iter"

	"skein/api"
	"skein/crew"
)

// visit gives a spot and all below it, as they are read: each one ahead of its left side, that ahead of its right one. A side without a key that is asked for isn't read.
func (t *Trie) visit(w *crew.Worker, top spot, asked span) iter.Seq2[spot, api.Errno] {
	return func(yield func(spot, api.Errno) bool) {
		todo := []spot{top} // the next one last
		for len(todo) > 0 {
			last := len(todo) - 1
			s, err := t.read(w, todo[last])
			todo = todo[:last]
			if !yield(s, err) || err != api.OK {
				return
			}
			switch n := s.node.(type) {
			case inner:
				todo = n.meeting(todo, asked)
			}
		}
	}
}

// meeting adds the two below a node, the left one last, whose halves have a key that is asked for.
func (n inner) meeting(list []spot, asked span) []spot {
	for side := 1; side >= 0; side-- {
		if n.half(side).meets(asked) {
			list = append(list, n.child(side))
		}
	}
	return list
}

// leaves gives the leaves below a spot whose keys are asked for.
func (t *Trie) leaves(w *crew.Worker, top spot, asked span) iter.Seq2[leaf, api.Errno] {
	return func(yield func(leaf, api.Errno) bool) {
		for s, err := range t.visit(w, top, asked) {
			if err != api.OK {
				yield(leaf{}, err)
				return
			}
			switch n := s.node.(type) {
			case leaf:
				if asked.has(n.key) && !yield(n, api.OK) {
					return
				}
			}
		}
	}
}
