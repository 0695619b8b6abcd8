package trie

import (
	"skein/api"
	"skein/crew"
)

// differ: a Diff that is being gone through. What its calls answer is whether it goes on.
type differ struct {
	trie  *Trie
	w     *crew.Worker
	yield func(api.Change, api.Errno) bool
}

// Which of both roots a node is of.
const (
	ofA = iota
	ofB
)

// ends gives an error, as the last thing.
func (d differ) ends(err api.Errno) bool {
	d.yield(api.Change{}, err)
	return false
}

// all gives all keys of one root's node, which the other root hasn't.
func (d differ) all(s spot, of int) bool {
	for n, err := range d.trie.leaves(d.w, s, allKeys()) {
		if err != api.OK {
			return d.ends(err)
		}
		c := api.Change{Key: n.key, New: n.value, Has: true}
		if of == ofA {
			c = api.Change{Key: n.key, Old: n.value, Had: true}
		}
		if !d.yield(c, api.OK) {
			return false
		}
	}
	return true
}

// beside gives the changes between two nodes that stand beside one another.
func (d differ) beside(a, b spot) bool {
	switch {
	case a.handle == b.handle:
		return true
	case a.handle == 0:
		return d.all(b, ofB)
	case b.handle == 0:
		return d.all(a, ofA)
	}
	a, err := d.trie.read(d.w, a)
	if err != api.OK {
		return d.ends(err)
	}
	b, err = d.trie.read(d.w, b)
	if err != api.OK {
		return d.ends(err)
	}
	return d.spans(a, b)
}

// spans goes by the spans of two nodes that were read.
func (d differ) spans(a, b spot) bool {
	x, y := a.node.span(), b.node.span()
	switch {
	case x == y:
		return d.alike(a, b)
	case x.last < y.first:
		return d.all(a, ofA) && d.all(b, ofB)
	case y.last < x.first:
		return d.all(b, ofB) && d.all(a, ofA)
	case x.holds(y):
		return d.halved(a, ofA, y.first, func(half spot) bool { return d.beside(half, b) })
	}
	return d.halved(b, ofB, x.first, func(half spot) bool { return d.beside(a, half) })
}

// alike is for two nodes of one span: both are leaves, or none is.
func (d differ) alike(a, b spot) bool {
	switch x := a.node.(type) {
	case leaf:
		if y, ok := b.node.(leaf); ok && x.value != y.value {
			return d.yield(api.Change{Key: x.key, Old: x.value, Had: true, New: y.value, Has: true}, api.OK)
		}
	case inner:
		if y, ok := b.node.(inner); ok {
			return d.beside(x.child(0), y.child(0)) && d.beside(x.child(1), y.child(1))
		}
	}
	return true
}

// halved goes through the two halves of one root's node, the lower one first: the half that a key is in as met says, all of the other one.
func (d differ) halved(s spot, of, key int, met func(half spot) bool) bool {
	n, ok := s.node.(inner)
	if !ok {
		return true // a leaf's span is within no other one, but its own
	}
	if n.side(key) == 0 {
		return met(n.child(0)) && d.all(n.child(1), of)
	}
	return d.all(n.child(0), of) && met(n.child(1))
}
