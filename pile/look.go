package pile

import (
	"skein/api"
	"skein/crew"
	"skein/word"
)

// perWord: how many places stand in one word of a set.
const perWord = 64

// set: a bit for each place that a pile can have.
type set [api.MaxSlots / perWord]uint64

// add puts a place into the set: whether it wasn't there.
func (s *set) add(i int) bool {
	was := *s
	s[(i-1)/perWord] |= 1 << ((i - 1) % perWord)
	return *s != was
}

// Look tells what is there at one moment, from the top.
func (p *Pile) Look(w *crew.Worker) []int {
	for {
		w.Step()
		h := p.Head()
		list := p.below(w, word.Index(h))
		w.Step()
		// Every change gives the head another tag: if it is as it was, nothing came or went meanwhile.
		if p.Head() == h {
			return list
		}
	}
}

// Places tells what is there, from the top.
func (p *Pile) Places() []int { return p.below(nil, word.Index(p.Head())) }

// below tells a place and those below it, a line each. A place that comes again ends it: who pushes what is there already makes a ring.
func (p *Pile) below(w *crew.Worker, i int) []int {
	var list []int
	var came set
	for i != 0 && came.add(i) {
		list = append(list, i)
		w.Step()
		i = int(p.next[i].Load())
	}
	return list
}
