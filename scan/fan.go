package scan

import (
	"sync"

	"skein/api"
	"skein/store"
	"skein/trie"
)

// Fan tells all parts' totals, by goroutines.
func Fan(s *store.Store, x api.Snap, workers int) ([]api.Total, api.Errno) {
	if workers < 1 || workers > api.MaxWorkers {
		return nil, api.ErrScanRange
	}
	roots, err := rootsOf(s, x)
	if err != api.OK {
		return nil, err
	}
	totals := make([]api.Total, len(roots))
	for part, tree := range walkAll(trie.New(s.Pool()), roots, workers) {
		if tree.err != api.OK {
			return nil, tree.err // the first part's, whichever was met first
		}
		totals[part] = tree.total
	}
	return totals, api.OK
}

// rootsOf tells the root of what a snapshot shows of each part.
func rootsOf(s *store.Store, x api.Snap) ([]int, api.Errno) {
	roots := make([]int, s.Parts())
	for part := range roots {
		var err api.Errno
		if roots[part], _, err = s.View(nil, x, part); err != api.OK {
			return nil, err
		}
	}
	return roots, api.OK
}

// walked: what came of going through a part's tree.
type walked struct {
	part  int
	total api.Total
	err   api.Errno
}

// walkAll goes through trees by so many goroutines. Each tree is gone through, whatever is met in others: so the faults that are counted don't hang on who is fast.
func walkAll(t *trie.Trie, roots []int, workers int) []walked {
	parts, told := make(chan int), make(chan walked)
	var all sync.WaitGroup
	for range workers {
		all.Add(1)
		go func() {
			defer all.Done()
			for part := range parts {
				told <- walk(t, part, roots[part])
			}
		}()
	}
	list := handOut(len(roots), parts, told)
	close(parts)
	all.Wait()
	return list
}

// handOut hands each part to whoever takes it, and awaits what is told of it. Whichever can be done is done next; as each part has its place, that isn't to be seen.
func handOut(parts int, to chan<- int, told <-chan walked) []walked {
	list := make([]walked, parts)
	for next, awaited := 0, parts; awaited > 0; {
		if next == parts {
			to = nil // nothing is left to be handed out
		}
		select {
		case to <- next:
			next++
		case x := <-told:
			list[x.part] = x
			awaited--
		}
	}
	return list
}

// walk goes through a part's tree.
func walk(t *trie.Trie, part, root int) walked {
	x := walked{part: part}
	for pair, err := range t.Walk(nil, root, 0, api.MaxKey) {
		if err != api.OK {
			return walked{part: part, err: err}
		}
		x.total.Keys++
		x.total.Sum += pair.Value
	}
	return x
}
