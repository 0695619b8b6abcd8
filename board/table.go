package board

import (
	"cmp"
	"slices"

	"skein/api"
)

// table: pairs, names rising, none twice. One that is published is never changed: who wants another one copies it.
type table struct {
	pairs []api.Pair
}

// find tells where a name stands, or where it would, and whether it is there.
func (t *table) find(name int) (int, bool) {
	return slices.BinarySearchFunc(t.pairs, name, func(p api.Pair, name int) int { return cmp.Compare(p.Key, name) })
}

// get tells a name's value, and whether it is there.
func (t *table) get(name int) (int, bool) {
	i, there := t.find(name)
	if !there {
		return 0, false
	}
	return t.pairs[i].Value, true
}

// noRoom tells whether a name isn't there and can't come.
func (t *table) noRoom(name int) bool {
	_, there := t.find(name)
	return !there && len(t.pairs) >= api.MaxNames
}

// copied: another table of the same pairs, with room for one that comes.
func (t *table) copied() *table {
	pairs := make([]api.Pair, len(t.pairs), len(t.pairs)+1)
	copy(pairs, t.pairs)
	return &table{pairs}
}

// with: a copy in which the name has the value.
func (t *table) with(name, value int) *table {
	other := t.copied()
	other.set(name, value)
	return other
}

// without: a copy in which the name isn't there.
func (t *table) without(name int) *table {
	other := t.copied()
	if i, there := other.find(name); there {
		other.pairs = slices.Delete(other.pairs, i, i+1)
	}
	return other
}

// set gives a name a value in a table that nobody else has yet.
func (t *table) set(name, value int) {
	i, there := t.find(name)
	if there {
		t.pairs[i].Value = value
		return
	}
	t.pairs = slices.Insert(t.pairs, i, api.Pair{Key: name, Value: value})
}
