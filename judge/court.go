package judge

import (
	"cmp"
	"slices"

	"skein/api"
)

// Why an event is blamed.
const (
	whyWrong  = iota + 1 // it isn't right
	whyTwice             // two published one version
	whyUntold            // nobody published its version
	whyOther             // the version holds something else
	whyBack              // it goes back behind one that was ahead of it
	whySnap              // it and a snapshot don't go together
	whySnaps             // two snapshots don't go together
)

// nobody: With, where there is no other event.
const nobody = -1

// publishers: how many events published a version, and the place of the last one of them.
type publishers struct{ times, place int }

// court: a history that is judged.
type court struct {
	start  [][]api.Pair
	events []api.Event
	ended  []int                 // the places of those that are right and have ended
	busy   [api.MaxParts]bool    // by part: whether a Write or a Batch is open
	by     map[[2]int]publishers // by part and number
	last   [api.MaxParts]int     // by part: the number of the last version that is told
	blames []api.Blame
}

// judged tells the blames of a history, in their order.
func judged(start [][]api.Pair, l []api.Event) []api.Blame {
	c := &court{start: start, events: l, by: map[[2]int]publishers{}}
	for at := range l {
		c.call(at)
	}
	for part := range start {
		c.tell(part)
	}
	for _, at := range c.ended {
		c.wantTold(at)
		for _, with := range c.ended {
			c.compare(at, with)
		}
	}
	slices.SortFunc(c.blames, byPlaces)
	return c.blames
}

func byPlaces(a, b api.Blame) int {
	return cmp.Or(cmp.Compare(a.At, b.At), cmp.Compare(a.With, b.With), cmp.Compare(a.Why, b.Why))
}

func (c *court) blame(at, with, why int) {
	c.blames = append(c.blames, api.Blame{At: at, With: with, Why: why})
}

// call takes an event up, if it is right.
func (c *court) call(at int) {
	e := &c.events[at]
	switch {
	case !isRight(e, len(c.start)):
		c.blame(at, nobody, whyWrong)
	case e.End != 0:
		c.ended = append(c.ended, at)
		c.publish(at)
	case publishes(e):
		c.busy[e.Part] = true
	}
}

// publish notes who published a version.
func (c *court) publish(at int) {
	if e := &c.events[at]; publishes(e) {
		version := [2]int{e.Part, e.Number}
		c.by[version] = publishers{times: c.by[version].times + 1, place: at}
	}
}

// tell goes through the versions of a part that are told, from the first one on. One map is enough: each version is held against the events, and then made the next one.
func (c *court) tell(part int) {
	held := map[int]int{}
	lay(held, c.start[part])
	number := 1
	for {
		c.wantHeld(part, number, held)
		next := c.by[[2]int{part, number + 1}]
		if next.times != 1 {
			break
		}
		change(held, &c.events[next.place])
		number++
	}
	c.last[part] = number
}

// wantHeld blames all that say something else of a version than it holds.
func (c *court) wantHeld(part, number int, held map[int]int) {
	for _, at := range c.ended {
		e := &c.events[at]
		if e.Part != part || toldOf(e) != number {
			continue
		}
		if value, had := held[e.Key]; had != e.Had || value != e.Value {
			c.blame(at, nobody, whyOther)
		}
	}
}

// wantTold blames an event of a version that nobody can have published.
func (c *court) wantTold(at int) {
	e := &c.events[at]
	if !isSnap(e) && e.Number > c.last[e.Part] && !c.busy[e.Part] {
		c.blame(at, nobody, whyUntold)
	}
}

// compare blames an event with another one.
func (c *court) compare(at, with int) {
	x, y := &c.events[at], &c.events[with]
	if at > with && areTwice(x, y) {
		c.blame(at, with, whyTwice)
	}
	if wasAhead(y.End, x.Begin) && isBack(x, y) {
		c.blame(at, with, whyBack)
	}
	if wasAhead(y.End, x.Begin) && (isWrittenLate(x, y) || isSnappedLate(x, y)) {
		c.blame(at, with, whySnap)
	}
	if at > with && areApart(x, y) {
		c.blame(at, with, whySnaps)
	}
}
