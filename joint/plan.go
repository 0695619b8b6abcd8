package joint

import (
	"cmp"
	"slices"

	"skein/api"
	"skein/crew"
)

// lacks tells why a Change can't be.
func (x *Cells) lacks(l []api.Entry) api.Errno {
	if len(l) < 1 || len(l) > api.MaxJoin {
		return api.ErrJointMany
	}
	var named [api.MaxJoin]bool
	for _, e := range l {
		if !x.has(e.Cell) || named[e.Cell] {
			return api.ErrJointCell
		}
		named[e.Cell] = true
	}
	for _, e := range l {
		if !canHold(e.Old) || !canHold(e.New) {
			return api.ErrJointValue
		}
	}
	return api.OK
}

// lacksMove tells why a Move can't be.
func (x *Cells) lacksMove(from, to, n int) api.Errno {
	switch {
	case !x.has(from) || !x.has(to) || from == to:
		return api.ErrJointCell
	case !canHold(n):
		return api.ErrJointValue
	}
	return api.OK
}

// rising: the entries in the order of their cells, in new memory.
func rising(l []api.Entry) []api.Entry {
	return slices.SortedFunc(slices.Values(l), func(a, b api.Entry) int { return cmp.Compare(a.Cell, b.Cell) })
}

// changed: the entries of a Change, by the words that its cells hold now.
func (x *Cells) changed(w *crew.Worker, l []api.Entry) (entries, api.Errno) {
	var p entries
	for _, e := range l {
		h := x.load(w, e.Cell)
		if h.value() != e.Old {
			return entries{}, api.ErrJointOther
		}
		p.add(entry{e.Cell, h, e.New})
	}
	return p, api.OK
}

// moved: those of a Move.
func (x *Cells) moved(w *crew.Worker, from, to, n int) (entries, api.Errno) {
	out, in := entry{cell: from}, entry{cell: to}
	lesser, greater := &out, &in
	if to < from {
		lesser, greater = greater, lesser
	}
	lesser.old = x.load(w, lesser.cell)
	greater.old = x.load(w, greater.cell)
	out.new, in.new = out.old.value()-n, in.old.value()+n
	switch {
	case out.new < 0:
		return entries{}, api.ErrJointLess
	case in.new > api.MaxIndex:
		return entries{}, api.ErrJointValue
	}
	var p entries
	p.add(*lesser)
	p.add(*greater)
	return p, api.OK
}

// same: those of a Look: each cell is to hold what it holds.
func (x *Cells) same(w *crew.Worker) entries {
	var p entries
	for c := range x.cells {
		h := x.load(w, c)
		p.add(entry{c, h, h.value()})
	}
	return p
}

// carry makes descriptors, each of what plan finds then, and helps them, till one is done: its entries.
func (x *Cells) carry(w *crew.Worker, plan func() (entries, api.Errno)) (entries, api.Errno) {
	for {
		p, err := plan()
		if err != api.OK {
			return entries{}, err
		}
		d, err := x.begin(w, p)
		if err != api.OK {
			return entries{}, err
		}
		if x.help(w, d) == done {
			return p, api.OK
		}
	}
}
