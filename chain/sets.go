package chain

import (
	"slices"
	"sync/atomic"

	"skein/api"
)

// generations: how many a handle may tell. The slot's index lies above the generation.
const generations = api.MaxTag + 1

func slotOf(h int) int { return h / generations }

// inUse tells whether h is the handle by which one of the slots is in use.
func inUse(slots []api.Slot, h int) bool {
	i, gen := slotOf(h), h%generations
	return i >= 1 && i <= len(slots) && gen%2 == 1 && slots[i-1].Gen == gen
}

// set: what a version does without. It knows whose it is: the slot may be another one's by now.
type set struct {
	handle int
	list   []int
}

// sets: by a slot's index the set that was given last; 0, which is none, has an idle place.
type sets []atomic.Pointer[set]

func newSets(slots int) sets { return make(sets, slots+1) }

// slots tells how many there are.
func (s sets) slots() int { return len(s) - 1 }

// keep lays a copy of a list by a slot that was taken.
func (s sets) keep(h int, list []int) {
	var is *set
	if len(list) > 0 {
		is = &set{handle: h, list: slices.Clone(list)}
	}
	s[slotOf(h)].Store(is)
}

// find tells a version's set; nil: it has none, or is none.
func (s sets) find(h int) *set {
	i := slotOf(h)
	if i < 1 || i > s.slots() {
		return nil
	}
	is := s[i].Load()
	if is == nil || is.handle != h {
		return nil
	}
	return is
}

// takeOut tells a version's set, which it hasn't any more; nobody else gets it.
func (s sets) takeOut(h int) []int {
	is := s.find(h)
	if is == nil || !s[slotOf(h)].CompareAndSwap(is, nil) {
		return nil
	}
	return is.list
}

// of tells a version's set, which it keeps.
func (s sets) of(h int) []int {
	is := s.find(h)
	if is == nil {
		return nil
	}
	return slices.Clone(is.list)
}
