package scan

import (
	"iter"

	"skein/api"
	"skein/crew"
	"skein/store"
	"skein/trie"
	"skein/word"
)

// piece: of a part's keys those from lo to hi; whether the part has others below them, or above them.
type piece struct {
	part, lo, hi int
	below, above bool
}

// pieces gives the piece of each part from that of lo to that of hi; both are keys, and lo isn't above hi.
func pieces(s *store.Store, lo, hi int) iter.Seq[piece] {
	return func(yield func(piece) bool) {
		parts := s.Parts()
		first, _ := word.Part(lo, parts)
		last, _ := word.Part(hi, parts)
		for part := first; part <= last; part++ {
			least, greatest, _ := word.Range(part, parts)
			if !yield(piece{part, max(lo, least), min(hi, greatest), lo > least, hi < greatest}) {
				return
			}
		}
	}
}

// reader: what reads a map's trees, by a worker's lines.
type reader struct {
	store *store.Store
	trie  *trie.Trie
	w     *crew.Worker
}

// pairs gives what a snapshot shows of a piece.
func (r reader) pairs(x api.Snap, p piece) iter.Seq2[api.Pair, api.Errno] {
	return func(yield func(api.Pair, api.Errno) bool) {
		root, _, err := r.store.View(r.w, x, p.part)
		if err != api.OK {
			yield(api.Pair{}, err)
			return
		}
		for pair, err := range r.trie.Walk(r.w, root, p.lo, p.hi) {
			if !yield(pair, err) {
				return
			}
		}
	}
}

// count tells how many pairs a snapshot shows of a piece, by ranks: few nodes are read for it.
func (r reader) count(x api.Snap, p piece) (int, api.Errno) {
	root, _, err := r.store.View(r.w, x, p.part)
	if err != api.OK {
		return 0, err
	}
	below := 0
	if p.below {
		if below, err = r.trie.Rank(r.w, root, p.lo); err != api.OK {
			return 0, err
		}
	}
	n, err := r.upTo(root, p)
	if err != api.OK {
		return 0, err
	}
	return n - below, api.OK
}

// upTo tells how many keys of a piece's part there are up to the end of the piece.
func (r reader) upTo(root int, p piece) (int, api.Errno) {
	if p.above {
		return r.trie.Rank(r.w, root, p.hi+1)
	}
	return r.trie.Count(r.w, root)
}

// changes gives what of a part y shows that x doesn't show so. If both show one version its tree isn't looked at.
func (r reader) changes(x, y api.Snap, part int) iter.Seq2[api.Change, api.Errno] {
	return func(yield func(api.Change, api.Errno) bool) {
		a, first, err := r.store.View(r.w, x, part)
		if err != api.OK {
			yield(api.Change{}, err)
			return
		}
		b, second, err := r.store.View(r.w, y, part)
		if err != api.OK {
			yield(api.Change{}, err)
			return
		}
		if first == second {
			return
		}
		for change, err := range r.trie.Diff(r.w, a, b) {
			if !yield(change, err) {
				return
			}
		}
	}
}
