package load

import (
	"maps"
	"slices"
	"sync/atomic"

	"skein/api"
	"skein/chain"
	"skein/crew"
)

// What a part's state is.
const (
	notThere = iota
	beingLoaded
	isThere
)

// firstNumber: the number of the version that a loading lays.
const firstNumber = 1

// part: a part of a map. Its pairs and its fails are own to whoever brought its state to beingLoaded, up to its next store: so they are plain.
type part struct {
	state atomic.Int64
	chain *chain.Chain
	pairs []api.Pair
	fails int // so many loadings fail still, if it is above 0
}

// loading: a part that is being loaded, and what was made for it so far.
type loading struct {
	*part
	load  *Load
	w     *crew.Worker
	root  int
	made  map[int]int // by handle its place in the order of making; what was given back isn't there
	count int         // of all that were made
}

// load loads a part, whose state is beingLoaded by this call.
func (x *Load) load(w *crew.Worker, p *part) api.Errno {
	if p.fails > 0 {
		p.fails--
		return p.leave(w, api.ErrLoadFailed)
	}
	l := loading{part: p, load: x, w: w, made: map[int]int{}}
	err := l.publish()
	if err != api.OK {
		l.undo()
	}
	return p.leave(w, err)
}

// leave is a loading's last line: behind an error the part is nobody's again.
func (p *part) leave(w *crew.Worker, err api.Errno) api.Errno {
	w.Step()
	if err != api.OK {
		p.state.Store(notThere)
		return err
	}
	p.pairs = nil // it is never loaded again
	p.state.Store(isThere)
	return api.OK
}

// publish makes the part's tree, and its first version of that.
func (l *loading) publish() api.Errno {
	for _, pair := range l.pairs {
		if err := l.put(pair); err != api.OK {
			return err
		}
	}
	_, err := l.chain.First(l.w, api.Node{A: l.root, B: firstNumber})
	return err
}

// put lays a pair. Nobody else knows the tree yet: what it does without is given back at once.
func (l *loading) put(pair api.Pair) api.Errno {
	edit, err := l.load.trie.Put(l.w, l.root, pair.Key, pair.Value)
	if err != api.OK {
		return err
	}
	l.root = edit.Root
	for _, h := range edit.Made {
		l.made[h] = l.count
		l.count++
	}
	for _, h := range edit.Gone {
		l.give(h)
	}
	return api.OK
}

// give gives a node back, whatever Give says of it: it isn't the loading's any more.
func (l *loading) give(h int) {
	l.load.pool.Give(l.w, h)
	delete(l.made, h)
}

// undo gives back all that is left of what was made, the last one first.
func (l *loading) undo() {
	later := func(a, b int) int { return l.made[b] - l.made[a] }
	for _, h := range slices.SortedFunc(maps.Keys(l.made), later) {
		l.give(h)
	}
}
