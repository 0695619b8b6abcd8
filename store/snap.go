package store

import (
	"skein/api"
	"skein/crew"
)

// Snap takes a snapshot.
func (s *Store) Snap(w *crew.Worker) (api.Snap, api.Errno) { return s.layers.Clock.Take(w) }

// Free lets a snapshot go.
func (s *Store) Free(w *crew.Worker, x api.Snap) api.Errno { return s.Release(w, x.Lease) }

// View tells the root and the number of the version that a snapshot shows of a part. It needn't enter: as long as the lease is held nobody cuts off what it goes by.
func (s *Store) View(w *crew.Worker, x api.Snap, part int) (int, int, api.Errno) {
	if !s.has(part) {
		return 0, 0, refused(w, api.ErrLoadPart)
	}
	if !s.Holds(w, x) {
		return 0, 0, api.ErrStoreSnap
	}
	return s.shown(w, part, x.Stamp)
}

// shown tells the root and the number of the version that a stamp shows of a part.
func (s *Store) shown(w *crew.Worker, part, stamp int) (int, int, api.Errno) {
	if err := s.Ready(w, part); err != api.OK {
		return 0, 0, err
	}
	h, err := s.chains[part].At(w, stamp)
	if err != api.OK {
		return 0, 0, err
	}
	version, err := s.Read(w, h)
	return version.A, version.B, err
}

// find tells a key's value in a version, by its root and its number.
func (s *Store) find(w *crew.Worker, root, number, key int) (api.Told, api.Errno) {
	value, had, err := s.Find(w, root, key)
	if err != api.OK {
		return api.Told{}, err
	}
	return api.Told{Value: value, Had: had, Number: number}, api.OK
}

// Peek tells a key's value by a snapshot.
func (s *Store) Peek(w *crew.Worker, x api.Snap, key int) (api.Told, api.Errno) {
	i, err := s.placeOf(w, key)
	if err != api.OK {
		return api.Told{}, err
	}
	root, number, err := s.View(w, x, i)
	if err != api.OK {
		return api.Told{}, err
	}
	return s.find(w, root, number, key)
}
