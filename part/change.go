package part

import (
	"maps"
	"slices"

	"skein/api"
	"skein/crew"
)

// change: what a write makes of a root: an edit of its tree, that of a Many being all its Puts' together.
type change struct {
	api.Edit
	changes bool
	many    int // how many Puts of a Many changed their root
}

// put: what a Put makes of a root.
func (a *Part) put(w *crew.Worker, root, key, value int) (change, api.Errno) {
	edit, err := a.trie.Put(w, root, key, value)
	if err != api.OK {
		return change{}, err
	}
	return change{Edit: edit, changes: edit.Root != root}, api.OK
}

// drop: what a Drop makes of a root.
func (a *Part) drop(w *crew.Worker, root, key int) (change, api.Errno) {
	edit, err := a.trie.Drop(w, root, key)
	if err == api.ErrTrieNone {
		return change{}, api.OK
	}
	if err != api.OK {
		return change{}, err
	}
	return change{Edit: edit, changes: true}, api.OK
}

// swap: what a Swap makes of a root.
func (a *Part) swap(w *crew.Worker, root, key, old, value int) (change, api.Errno) {
	is, had, err := a.trie.Find(w, root, key)
	switch {
	case err != api.OK:
		return change{}, err
	case !had:
		return change{}, api.ErrTrieNone
	case is != old:
		return change{}, api.ErrPartOther
	case old == value:
		return change{Edit: api.Edit{Old: old, Had: true}}, api.OK
	}
	return a.put(w, root, key, value)
}

// batch: a Many in the midst of its Puts.
type batch struct {
	*Part
	w     *crew.Worker
	root  int
	gone  []int       // what the old root has, and this one hasn't
	made  map[int]int // by handle its place in the order of making; what was given back isn't there
	count int         // of all that were made
	many  int
}

// lay: what a Many makes of a root.
func (a *Part) lay(w *crew.Worker, root int, l []api.Pair) (change, api.Errno) {
	b := batch{Part: a, w: w, root: root, made: map[int]int{}}
	for _, pair := range l {
		if err := b.add(pair); err != api.OK {
			a.giveBack(w, b.inOrder())
			return change{}, err
		}
	}
	edit := api.Edit{Root: b.root, Gone: b.gone, Made: b.inOrder()}
	return change{Edit: edit, changes: b.root != root, many: b.many}, api.OK
}

// add lays a pair upon what the one ahead left.
func (b *batch) add(pair api.Pair) api.Errno {
	c, err := b.put(b.w, b.root, pair.Key, pair.Value)
	if err != api.OK {
		return err
	}
	if c.changes {
		b.many++
	}
	b.root = c.Root
	for _, h := range c.Gone {
		b.letGo(h)
	}
	for _, h := range c.Made {
		b.made[h] = b.count
		b.count++
	}
	return api.OK
}

// letGo lets go of a node. One that the Many made itself nobody else knows yet: it is given back at once.
func (b *batch) letGo(h int) {
	if _, own := b.made[h]; !own {
		b.gone = append(b.gone, h)
		return
	}
	b.pool.Give(b.w, h)
	delete(b.made, h)
}

// inOrder tells what was made and is left, in the order of its making.
func (b *batch) inOrder() []int {
	earlier := func(g, h int) int { return b.made[g] - b.made[h] }
	return slices.SortedFunc(maps.Keys(b.made), earlier)
}

// giveBack gives back, the last one first, what was made and an error made useless. Unlike an Undo of nothing it is no line then.
func (a *Part) giveBack(w *crew.Worker, made []int) {
	if len(made) > 0 {
		a.trie.Undo(w, made)
	}
}
