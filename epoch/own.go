package epoch

import "slices"

// patience: how many epochs a handle waits. Behind who entered the epoch goes on by one at most, so two are out of its reach.
const patience = 2

// own: what is a worker's own.
type own struct {
	depth int    // how often it entered, and hasn't left
	waits []wait // in the order in which they were retired
}

// wait: a handle, and the epoch in which it was retired.
type wait struct {
	handle, epoch int
	gone          bool // it isn't in the list any more
}

// isDue tells whether it may be given back.
func (x wait) isDue(now int) bool { return !x.gone && x.epoch+patience <= now }

func (x wait) isGone() bool { return x.gone }

// waiting tells what is in the list.
func (o *own) waiting() []wait {
	return slices.DeleteFunc(slices.Clone(o.waits), wait.isGone)
}

// takeOut takes one out of the list, by its place. The others keep theirs till the list is tidied: moving all of them up for each one would take long. (The list of who was buried meanwhile is empty.)
func (o *own) takeOut(i int) {
	if i < len(o.waits) {
		o.waits[i].gone = true
	}
}

// tidy lets go of what isn't in the list any more.
func (o *own) tidy() { o.waits = slices.DeleteFunc(o.waits, wait.isGone) }
