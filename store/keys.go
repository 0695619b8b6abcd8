package store

import (
	"skein/api"
	"skein/crew"
	"skein/part"
	"skein/trim"
)

// ofPart does a call of a key's part.
func (s *Store) ofPart(w *crew.Worker, key int, do func(a *part.Part) (api.Told, api.Errno)) (api.Told, api.Errno) {
	i, err := s.placeOf(w, key)
	if err != api.OK {
		return api.Told{}, err
	}
	return do(s.parts[i])
}

// Get tells a key's value.
func (s *Store) Get(w *crew.Worker, key int) (api.Told, api.Errno) {
	return s.ofPart(w, key, func(a *part.Part) (api.Told, api.Errno) { return a.Get(w, key) })
}

// Put gives a key a value.
func (s *Store) Put(w *crew.Worker, key, value int) (api.Told, api.Errno) {
	return s.ofPart(w, key, func(a *part.Part) (api.Told, api.Errno) { return a.Put(w, key, value) })
}

// Drop takes a key away.
func (s *Store) Drop(w *crew.Worker, key int) (api.Told, api.Errno) {
	return s.ofPart(w, key, func(a *part.Part) (api.Told, api.Errno) { return a.Drop(w, key) })
}

// Swap gives a key a value, if it has that old one.
func (s *Store) Swap(w *crew.Worker, key, old, value int) (api.Told, api.Errno) {
	return s.ofPart(w, key, func(a *part.Part) (api.Told, api.Errno) { return a.Swap(w, key, old, value) })
}

// Many gives many keys of one part their values, in one version.
func (s *Store) Many(w *crew.Worker, l []api.Pair) (api.Told, api.Errno) {
	first := 0 // the least key is part 0's, whose a Many of no pairs is
	if len(l) > 0 {
		first = l[0].Key
	}
	return s.ofPart(w, first, func(a *part.Part) (api.Told, api.Errno) { return a.Many(w, l) })
}

// Trim takes off a part's versions that nobody can ask for.
func (s *Store) Trim(w *crew.Worker, part int) (int, api.Errno) {
	if !s.has(part) {
		return 0, refused(w, api.ErrLoadPart)
	}
	return trim.Trim(w, s.chains[part], s.layers.Epoch, s.layers.Clock)
}

// Advance moves on to the next epoch, if it can.
func (s *Store) Advance(w *crew.Worker) bool { return s.layers.Epoch.Advance(w) }

// Collect gives back what has waited long enough.
func (s *Store) Collect(w *crew.Worker) (int, api.Errno) { return s.layers.Epoch.Collect(w) }
