package store

import (
	"skein/api"
	"skein/crew"
	"skein/word"
)

// Name gives a snapshot a name, which holds its lease from then on.
func (s *Store) Name(w *crew.Worker, name int, x api.Snap) api.Errno {
	is, err := word.Pack(x.Lease+1, x.Stamp)
	if err != api.OK {
		return refused(w, err)
	}
	laid, err := s.Add(w, name, is)
	if err == api.OK && !laid {
		return api.ErrStoreName
	}
	return err
}

// Unname lets a named snapshot go.
func (s *Store) Unname(w *crew.Worker, name int) api.Errno {
	was, err := s.Board.Drop(w, name)
	if err != api.OK {
		return err
	}
	return s.Release(w, word.Index(was)-1)
}

// PeekNamed tells a key's value by a named snapshot. Whoever takes the name away lets the lease go, and then a Trim may cut off what is being gone by: so it enters, and what it met counts only if the name stands still.
func (s *Store) PeekNamed(w *crew.Worker, name, key int) (api.Told, api.Errno) {
	i, err := s.placeOf(w, key)
	if err != api.OK {
		return api.Told{}, err
	}
	if err := s.Enter(w); err != api.OK {
		return api.Told{}, err
	}
	defer s.Leave(w)
	is, err := s.Board.Get(w, name)
	if err != api.OK {
		return api.Told{}, err
	}
	told, err := s.peekAt(w, word.Tag(is), i, key)
	if again, gone := s.Board.Get(w, name); gone != api.OK || again != is {
		return api.Told{}, api.ErrStoreGone
	}
	return told, err
}

// peekAt tells a key's value by a stamp.
func (s *Store) peekAt(w *crew.Worker, stamp, part, key int) (api.Told, api.Errno) {
	root, number, err := s.shown(w, part, stamp)
	if err != api.OK {
		return api.Told{}, err
	}
	return s.find(w, root, number, key)
}

// Names tells all names, and their stamps.
func (s *Store) Names(w *crew.Worker) []api.Pair {
	list := s.All(w)
	for i := range list {
		list[i].Value = word.Tag(list[i].Value)
	}
	return list
}
