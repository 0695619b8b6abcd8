package trie

import (
	"slices"

	"skein/api"
	"skein/crew"
	"skein/pool"
)

// The kinds of Play's calls.
const (
	kindFind = iota + 1
	kindPut
	kindDrop
	kindUndo
	kindClean
	kindCopy
	kindCount
	kindRank
	kindSelect
	kindNext
	kindWalk
	kindDiff
	kindNodes
)

// Play does a case over maps in a pool.
func Play(n int, c api.Case) (api.Run, []api.Slot, [][]int, api.Errno) {
	p, err := pool.New(n)
	if err != api.OK {
		return api.Run{}, nil, nil, err
	}
	d := &calls{trie: New(p)}
	run, err := crew.Run(c, d)
	if err != api.OK {
		return api.Run{}, nil, nil, err
	}
	var regs [][]int
	for k := range c.Work {
		regs = append(regs, slices.Clone(d.owns[k].roots[:]))
	}
	return run, p.Slots(), regs, api.OK
}

// own: what a worker has by itself: its registers, and its last Put's or Drop's Edit.
type own struct {
	roots [api.MaxRegs]int
	edit  api.Edit
}

// has tells whether all of these are registers.
func (o *own) has(regs ...int) bool {
	for _, r := range regs {
		if r < 0 || r >= len(o.roots) {
			return false
		}
	}
	return true
}

// calls: what a run's calls go by.
type calls struct {
	trie *Trie
	owns [api.MaxWorkers]own
}

// Do does a call of a run.
func (p *calls) Do(w *crew.Worker, c api.Call) api.Answer {
	o := &p.owns[w.Number()]
	switch c.Kind {
	case kindUndo:
		return api.Answer{Err: p.trie.Undo(w, o.edit.Made)}
	case kindClean:
		return api.Answer{Err: p.trie.Undo(w, o.edit.Gone)}
	case kindCopy, kindDiff:
		if !o.has(c.A, c.B) {
			return refused(w, api.ErrTrieRoot)
		}
		if c.Kind == kindDiff {
			return p.diff(w, o.roots[c.A], o.roots[c.B])
		}
		w.Step()
		o.roots[c.B] = o.roots[c.A]
		return api.Answer{}
	case kindFind, kindPut, kindDrop, kindCount, kindRank, kindSelect, kindNext, kindWalk, kindNodes:
		if !o.has(c.C) {
			return refused(w, api.ErrTrieRoot)
		}
		if c.Kind == kindPut || c.Kind == kindDrop {
			return p.change(w, o, c)
		}
		return p.ask(w, o.roots[c.C], c)
	}
	return refused(w, api.ErrTrieCall)
}

// refused is a line without an access.
func refused(w *crew.Worker, err api.Errno) api.Answer { return api.Answer{Err: idle(w, err)} }

// change does a Put or a Drop, and keeps what it came to.
func (p *calls) change(w *crew.Worker, o *own, c api.Call) api.Answer {
	root := &o.roots[c.C]
	var e api.Edit
	var err api.Errno
	if c.Kind == kindPut {
		e, err = p.trie.Put(w, *root, c.A, c.B)
	} else {
		e, err = p.trie.Drop(w, *root, c.A)
	}
	if err != api.OK {
		return api.Answer{Err: err}
	}
	*root, o.edit = e.Root, e
	ints := slices.Concat([]int{len(e.Gone)}, e.Gone, e.Made)
	return api.Answer{Ok: e.Had, N: e.Root, M: e.Old, Ints: ints}
}

// ask does a call that changes nothing.
func (p *calls) ask(w *crew.Worker, root int, c api.Call) api.Answer {
	var a api.Answer
	var x api.Pair
	switch c.Kind {
	case kindFind:
		a.N, a.Ok, a.Err = p.trie.Find(w, root, c.A)
	case kindCount:
		a.N, a.Err = p.trie.Count(w, root)
	case kindRank:
		a.N, a.Err = p.trie.Rank(w, root, c.A)
	case kindSelect:
		x, a.Err = p.trie.Select(w, root, c.A)
		a.N, a.M = x.Key, x.Value
	case kindNext:
		x, a.Err = p.trie.Next(w, root, c.A)
		a.N, a.M = x.Key, x.Value
	case kindWalk:
		return p.walk(w, root, c.A, c.B)
	case kindNodes:
		a.Ints, a.Err = p.trie.Nodes(w, root)
	}
	return a
}

func (p *calls) walk(w *crew.Worker, root, lo, hi int) api.Answer {
	var a api.Answer
	for x, err := range p.trie.Walk(w, root, lo, hi) {
		if err != api.OK {
			a.Err = err
			break
		}
		a.Pairs = append(a.Pairs, x)
	}
	return a
}

func (p *calls) diff(w *crew.Worker, a, b int) api.Answer {
	var told api.Answer
	for c, err := range p.trie.Diff(w, a, b) {
		if err != api.OK {
			told.Err = err
			break
		}
		told.Ints = append(told.Ints, c.Key, asNumber(c.Had), c.Old, asNumber(c.Has), c.New)
	}
	return told
}

func asNumber(b bool) int {
	if b {
		return 1
	}
	return 0
}
