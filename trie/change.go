package trie

import (
	"slices"

	"skein/api"
	"skein/crew"
	"skein/word"
)

// change: a Put or a Drop in the midst of its making: what it came to so far, or the error that ended it.
type change struct {
	trie *Trie
	w    *crew.Worker
	edit api.Edit
	err  api.Errno
}

// take makes a node, which is the root then, till another one is made above it; behind an error nothing is made any more.
func (c *change) take(n node) {
	if c.err != api.OK {
		return
	}
	var h int
	if h, c.err = c.trie.pool.Take(c.w, numbersOf(n), 0); c.err == api.OK {
		c.edit.Made = append(c.edit.Made, h)
		c.edit.Root = h
	}
}

// join makes the inner node of a new key's leaf, which was just made, and of the node at which the way down ended.
func (c *change) join(key int, s spot) {
	place, _ := word.Place(key, s.node.span().first)
	n := inner{first: firstOf(key, place), place: place, keys: s.node.count() + 1}
	side := n.side(key)
	n.below[side], n.below[1-side] = c.edit.Root, s.handle
	c.take(n)
}

// climb makes the nodes of a way anew, from below, each with so many keys more.
func (c *change) climb(way []step, more int) {
	for _, s := range slices.Backward(way) {
		c.edit.Gone = append(c.edit.Gone, s.handle)
		c.take(s.node.with(s.side, c.edit.Root, more))
	}
}

// end tells what the change came to. By an error all that was made is given back, whatever Give says of one of them.
func (c *change) end() (api.Edit, api.Errno) {
	if c.err == api.OK {
		return c.edit, api.OK
	}
	for _, h := range slices.Backward(c.edit.Made) {
		c.trie.pool.Give(c.w, h)
	}
	return api.Edit{}, c.err
}
