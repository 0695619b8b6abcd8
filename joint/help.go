package joint

import (
	"sync/atomic"

	"skein/api"
	"skein/crew"
)

// The statuses of a descriptor.
const (
	undecided = iota
	done
	void // it isn't to be
)

// entry: of a descriptor: a cell, the word that it must hold, and what it is to hold.
type entry struct {
	cell int
	old  held
	new  int
}

// entries: some, whose cells rise. Being an array they are copied whole into a descriptor: who made them shares nothing with it.
type entries struct {
	many int
	list [api.MaxJoin]entry
}

func (l *entries) add(e entry) {
	l.list[l.many] = e
	l.many++
}

func (l *entries) all() []entry { return l.list[:l.many] }

// descriptor: a change that all can do. Only its status is changed, and that but once.
type descriptor struct {
	status  atomic.Int64
	entries entries
}

func (d *descriptor) load(w *crew.Worker) int {
	w.Step()
	return int(d.status.Load())
}

// decide is a line: the status is this one, if nobody has decided yet.
func (d *descriptor) decide(w *crew.Worker, status int) {
	w.Step()
	d.status.CompareAndSwap(undecided, int64(status))
}

// own: the descriptors that one worker made, for good: who found one in a cell may come back to it at any time. Others ask for one only when they have found it in a cell, so it needs no lock.
type own struct {
	made int
	list *[api.MaxTries]*descriptor // none ahead of the first one: most workers make none
}

// begin makes the worker's next descriptor: its number.
func (x *Cells) begin(w *crew.Worker, l entries) (int, api.Errno) {
	k := w.Number()
	o := &x.owns[k]
	if o.made == api.MaxTries {
		return 0, api.ErrJointMany
	}
	if o.list == nil {
		o.list = new([api.MaxTries]*descriptor)
	}
	o.list[o.made] = &descriptor{entries: l}
	o.made++
	return k + api.MaxWorkers*(o.made-1), api.OK
}

func (x *Cells) descriptor(d int) *descriptor {
	return x.owns[d%api.MaxWorkers].list[d/api.MaxWorkers]
}

// load tells the word of a cell, behind whatever was under way in it.
func (x *Cells) load(w *crew.Worker, c int) held {
	for {
		h := x.cells[c].load(w)
		if !h.isUnderWay() {
			return h
		}
		x.help(w, h.descriptor())
	}
}

// help does what is left to do of a descriptor, and tells its status. Who comes behind the decision sets cells free as well: somebody may have been halted ahead of that, or have entered a cell too late.
func (x *Cells) help(w *crew.Worker, d int) int {
	t := x.descriptor(d)
	x.settle(w, d, t)
	status := t.load(w)
	for _, e := range t.entries.all() {
		now := e.old
		if status == done {
			now = e.old.next(e.new)
		}
		x.cells[e.cell].cas(w, underWay(d), now)
	}
	return status
}

// settle lets a descriptor be decided.
func (x *Cells) settle(w *crew.Worker, d int, t *descriptor) {
	for _, e := range t.entries.all() {
		if !x.enter(w, d, t, e) {
			return
		}
	}
	t.decide(w, done)
}

// enter lets an entry's cell hold its descriptor; false: that one is decided.
func (x *Cells) enter(w *crew.Worker, d int, t *descriptor, e entry) bool {
	for {
		if t.load(w) != undecided {
			return false
		}
		c := &x.cells[e.cell]
		if c.cas(w, e.old, underWay(d)) {
			return true
		}
		h := c.load(w)
		switch {
		case h == underWay(d):
			return true
		case h.isUnderWay():
			// Cells rise in every descriptor, so who is in the way of whom never goes round.
			x.help(w, h.descriptor())
		default:
			t.decide(w, void)
			return false
		}
	}
}
