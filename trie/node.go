package trie

import (
	"skein/api"
	"skein/crew"
	"skein/word"
)

// An inner node's first number is its first key times perFirst, its place, and 1, by which it is never a leaf's 0.
const (
	perFirst = 64
	maxPlace = 31
)

// span: the keys from first to last; none, if last is below first.
type span struct{ first, last int }

func allKeys() span { return span{0, api.MaxKey} }

func isKey(key int) bool { return allKeys().has(key) }

func (s span) has(key int) bool { return s.first <= key && key <= s.last }

// holds tells whether all of another span is within this one.
func (s span) holds(o span) bool { return s.first <= o.first && o.last <= s.last }

// meets tells whether two spans have a key in common; one without keys meets none.
func (s span) meets(o span) bool { return max(s.first, o.first) <= min(s.last, o.last) }

// node: a leaf or an inner one.
type node interface {
	span() span
	count() int
}

type leaf struct{ key, value int }

func (n leaf) span() span { return span{n.key, n.key} }

func (n leaf) count() int { return 1 }

func (n leaf) pair() api.Pair { return api.Pair{Key: n.key, Value: n.value} }

type inner struct {
	first, place int
	below        [2]int // handles, by the bit that their keys have at the place
	keys         int
}

func (n inner) span() span { return span{n.first, n.half(1).last} }

func (n inner) count() int { return n.keys }

// half tells the keys whose bit at the place is side.
func (n inner) half(side int) span {
	size := 1 << n.place
	first := n.first + side*size
	return span{first, first + size - 1}
}

// side tells in which half a key is, which is one of the span's.
func (n inner) side(key int) int {
	bit, _ := word.Bit(key, n.place)
	return bit
}

func (n inner) child(side int) spot { return spot{handle: n.below[side], within: n.half(side)} }

// with tells the node with another handle on a side, and so many keys more.
func (n inner) with(side, handle, more int) inner {
	n.below[side] = handle
	n.keys += more
	return n
}

// nodeOf tells the node that four numbers are; ErrTrieRoot, if they are none.
func nodeOf(x api.Node) (node, api.Errno) {
	if x.A < 0 {
		return nil, api.ErrTrieRoot
	}
	if x.A == 0 {
		if !isKey(x.B) || x.D != 1 {
			return nil, api.ErrTrieRoot
		}
		return leaf{x.B, x.C}, api.OK
	}
	n := inner{first: (x.A - 1) / perFirst, place: (x.A - 1) % perFirst, below: [2]int{x.B, x.C}, keys: x.D}
	if n.place > maxPlace || !isKey(n.first) || n.first != firstOf(n.first, n.place) {
		return nil, api.ErrTrieRoot
	}
	return n, api.OK
}

// firstOf tells the first key of the span in which a key is whose halves differ at a place.
func firstOf(key, place int) int { return key >> (place + 1) << (place + 1) }

// numbersOf tells the four numbers of a node.
func numbersOf(n node) api.Node {
	switch n := n.(type) {
	case leaf:
		return api.Node{B: n.key, C: n.value, D: 1}
	case inner:
		return api.Node{A: n.first*perFirst + n.place + 1, B: n.below[0], C: n.below[1], D: n.keys}
	}
	return api.Node{}
}

// spot: where a node stands: its handle, the keys within which its span must be; and the node, once it was read.
type spot struct {
	handle int
	within span
	node   node
}

func rootSpot(root int) spot { return spot{handle: root, within: allKeys()} }

// read is the line by which a spot is looked at first; from then on it has its node.
func (t *Trie) read(w *crew.Worker, s spot) (spot, api.Errno) {
	if s.node != nil {
		return s, api.OK
	}
	x, err := t.pool.Read(w, s.handle)
	if err != api.OK {
		return spot{}, err
	}
	s.node, err = nodeOf(x)
	if err != api.OK {
		return spot{}, err
	}
	if !s.within.holds(s.node.span()) {
		return spot{}, api.ErrTrieRoot
	}
	return s, api.OK
}
