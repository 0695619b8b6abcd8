package audit

import (
	"slices"

	"skein/store"
)

// moment: a map, the least stamp that anybody can ask for, and the stamp that a version gets that is settled now.
type moment struct {
	sight
	least, now int
}

// momentOf looks at a map. What a clock's now is lines alone tell: they are done by no worker, and only load.
func momentOf(s *store.Store) moment {
	return moment{sight: look(s), least: s.Clock().Least(nil), now: s.Clock().Now(nil)}
}

// retired tells how many handles a Trim of a part would retire: it goes where a Trim goes, and cuts nothing.
func (m moment) retired(part int) int {
	var cut []int // what a Trim would have cut by now: that has no link any more, though somebody linked it in a ring by hand
	n := 0
	h := m.shown(m.parts[part])
	for m.isInUse(h) && m.slot(h).Link != 0 && !slices.Contains(cut, h) {
		n += len(m.store.Chain(part).Set(h)) + 1
		cut = append(cut, h)
		h = m.slot(h).Link
	}
	return n
}

// shown tells of a part's versions the one at which a Trim begins: the newest one whose stamp isn't above the least one; 0: there is none.
func (m moment) shown(versions []version) int {
	for _, v := range versions {
		stamp := m.slot(v.handle).Mark
		if stamp == 0 && v == versions[0] { // whoever asks for the newest one settles it
			stamp = m.now
		}
		if stamp <= m.least {
			return v.handle
		}
	}
	return 0
}
