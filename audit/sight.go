package audit

import (
	"skein/api"
	"skein/store"
	"skein/word"
)

// sight: a map, and what was told of its slots and its parts when it was looked at. To go by that is no line, and counts no fault.
type sight struct {
	store *store.Store
	slots []api.Slot
	parts [][]version // of each part all versions, the newest first
}

// version: a version of a part.
type version struct{ handle, part, number, root int }

func look(s *store.Store) sight {
	x := sight{store: s, slots: s.Pool().Slots()}
	for part := range s.Parts() {
		x.parts = append(x.parts, x.versions(part))
	}
	return x
}

// versions asks for a part's versions.
func (x sight) versions(part int) []version {
	var list []version
	for _, h := range x.store.Chain(part).Versions() {
		n := x.slot(h).Node
		list = append(list, version{handle: h, part: part, number: n.B, root: n.A})
	}
	return list
}

// newest tells the newest version of each part that has one.
func (x sight) newest() []version {
	var list []version
	for _, versions := range x.parts {
		if len(versions) > 0 {
			list = append(list, versions[0])
		}
	}
	return list
}

// wordOf tells the word of a slot, by its number, and of its generation: that is its handle, while it is in use.
func (x sight) wordOf(i int) int {
	w, _ := word.Pack(i, x.slots[i-1].Gen)
	return w
}

// isInUse tells whether h is the handle of a slot in use.
func (x sight) isInUse(h int) bool {
	i := word.Index(h)
	return i >= 1 && i <= len(x.slots) && word.Tag(h)%2 == 1 && x.wordOf(i) == h
}

// slot tells of a slot in use what it is, by its handle.
func (x sight) slot(h int) api.Slot { return x.slots[word.Index(h)-1] }

// firsts: by the handle of a node the number of the first version that was found to have it.
type firsts map[int]int

// firstOf tells which nodes versions have: of each the first one in the list that has it.
func (x sight) firstOf(list []version) firsts {
	f := firsts{}
	for _, v := range list {
		x.descend(f, v)
	}
	return f
}

// descend goes through the nodes of a version. It passes over those that came already: all that hangs on them came with them. So each is looked at once, however many versions have it, and a ring, which somebody may have laid by hand, ends.
func (x sight) descend(f firsts, v version) {
	todo := []int{v.root}
	for len(todo) > 0 {
		last := len(todo) - 1
		h := todo[last]
		todo = todo[:last]
		if _, came := f[h]; came || !x.isInUse(h) {
			continue
		}
		f[h] = v.number
		if n := x.slot(h).Node; n.A > 0 {
			todo = append(todo, n.B, n.C)
		}
	}
}
