package gust

import (
	"skein/api"
	"skein/judge"
	"skein/store"
	"skein/trie"
)

// Report tells what came of a storm, of its map and its events, when all have ended. It looks at the memory ahead of the pairs, as these are asked for by a snapshot, which loads the parts that nobody came to; and at the faults behind them, as their trees are read by the way.
func Report(s *store.Store, p Plan, events []api.Event) api.Report {
	r := api.Report{Events: len(events), Used: used(s), Waiting: waiting(s, p.Workers)}
	r.Pairs = pairs(s)
	r.Faults = s.Pool().Faults()
	blames, _ := judge.Versions(make([][]api.Pair, p.Parts), events) // without a source all parts are empty at first; no plan that can be has too many events
	r.Blames = len(blames)
	return r
}

// used: how many slots are in use: those of odd generation.
func used(s *store.Store) int {
	n := 0
	for _, x := range s.Pool().Slots() {
		n += x.Gen & 1
	}
	return n
}

// waiting: how many handles wait, of all workers.
func waiting(s *store.Store, workers int) int {
	n := 0
	for k := range workers {
		n += len(s.Epoch().Waiting(k))
	}
	return n
}

// pairs: all that the map holds, rising: part by part, as each has a range of keys. What can't be read isn't there: a slot that was given back is told by the faults.
func pairs(s *store.Store) []api.Pair {
	x, err := s.Snap(nil)
	if err != api.OK {
		return nil
	}
	defer s.Free(nil, x)
	t := trie.New(s.Pool())
	var list []api.Pair
	for part := range s.Parts() {
		root, _, _ := s.View(nil, x, part)
		for pair, err := range t.Walk(nil, root, 0, api.MaxKey) {
			if err == api.OK {
				list = append(list, pair)
			}
		}
	}
	return list
}
