package scan_test

import (
	"runtime"
	"slices"
	"sync/atomic"
	"testing"

	"skein/api"
	"skein/crew"
	"skein/scan"
)

// loose does f by so many workers, without turns; all have come when they begin. What f answers is what is wrong.
func loose(t *testing.T, promise string, workers int, f func(w *crew.Worker) string) {
	t.Helper()
	var come atomic.Int64
	wrong := make([]string, workers)
	c := api.Case{Work: slices.Repeat([][]api.Call{{{}}}, workers)}
	answers, err := crew.Loose(c, does(func(w *crew.Worker, _ api.Call) api.Answer {
		come.Add(1)
		for come.Load() < int64(workers) {
			runtime.Gosched()
		}
		wrong[w.Number()] = f(w)
		return api.Answer{}
	}))
	if err != api.OK || len(answers) != workers {
		t.Fatalf("Loose: %v, %v", answers, err)
	}
	for k, list := range answers {
		if len(list) != 1 || list[0].Err != api.OK || wrong[k] != "" {
			t.Fatalf("%s: worker %d: %+v: %s", promise, k, list, wrong[k])
		}
	}
}

// keep does a Trim of each part, an Advance, a Collect, and lets others go on.
func (r real) keep(w *crew.Worker) {
	for part := range r.Parts() {
		r.Trim(w, part)
	}
	r.Advance(w)
	r.Collect(w)
	runtime.Gosched()
}

// Without turns, too: parts are loaded by whoever scans first; who comes meanwhile is told so; in the end all tell the same.
func TestLooseLoading(t *testing.T) {
	for round := range 150 {
		s := api.Setup{Parts: 3, Workers: 8, Slots: 100, Leases: 8, Source: pairs(1, 10, 2, 20, 1<<31, 30, mostKey, 40), Fails: round % 3}
		r := newReal(t, s)
		var failures atomic.Int64
		loose(t, "P19.1", 8, func(w *crew.Worker) string {
			x, _ := r.Snap(w)
			for {
				list, err := gathered(scan.Range(r.Store, w, x, 0, mostKey), 0)
				if want := s.Source; err == api.OK && !slices.Equal(list, want) || !slices.Equal(list, want[:len(list)]) {
					return "another Range"
				}
				if err == fails {
					failures.Add(1)
				} else if err != api.OK && err != busy {
					return err.Error()
				}
				if err == api.OK {
					break
				}
				runtime.Gosched()
			}
			if n, err := scan.Count(r.Store, w, x, 0, mostKey); n != 4 || err != api.OK {
				return "another Count"
			}
			if err := r.Free(w, x); err != api.OK {
				return err.Error()
			}
			return ""
		})
		if failures.Load() != int64(3*(round%3)) || r.Pool().Faults() != 0 {
			t.Fatalf("P19.1: %d failures, %d faults", failures.Load(), r.Pool().Faults())
		}
	}
}

// valueOf: of a key that is there.
func valueOf(list []api.Pair, key int) int {
	i := slices.IndexFunc(list, func(x api.Pair) bool { return x.Key == key })
	if i < 0 {
		return lowest
	}
	return list[i].Value
}

// Without turns, too, a Range is one moment's: one worker writes a number to a part and then to another one, and two keys at once by a Many; so no Range tells the second one ahead of the first one, nor one key of the Many without the other one. The laws hold, between a snapshot and the next one.
func TestLooseMoments(t *testing.T) {
	var looks atomic.Int64
	for range 40 {
		s := api.Setup{Parts: 2, Workers: 4, Slots: 300, Leases: 8, Source: pairs(1, 0, 2, 0, 3, 0, far, 0)}
		r := newReal(t, s)
		for _, key := range []int{1, far} {
			r.Get(nil, key)
		}
		var done atomic.Bool
		loose(t, "P32.1, P19.7, P19.8", 4, func(w *crew.Worker) string {
			if w.Number() == 0 {
				defer done.Store(true)
				for i := 1; i <= 120; i++ {
					for _, c := range []api.Call{put(1, i), put(far, i), many(2, i, 3, i), put(10+i%7, i), drop(10 + (i+3)%7)} {
						for a := r.calls.Do(w, c); a.Err != api.OK; a = r.calls.Do(w, c) {
							if a.Err != noRoom {
								return a.Err.Error()
							}
							r.keep(w)
						}
					}
				}
				return ""
			}
			l := lawful{r, w}
			x, _ := r.Snap(w)
			for !done.Load() {
				r.keep(w)
				y, err := r.Snap(w)
				if err != api.OK {
					return err.Error()
				}
				list, wrong := l.all(y)
				first, second := valueOf(list, 1), valueOf(list, far)
				if wrong != "" || second > first || first > second+1 || valueOf(list, 2) != valueOf(list, 3) || valueOf(list, 2) > second {
					return "not one moment's"
				}
				if wrong := l.laws(x, y, func(keys []int) []int { return keys[:min(5, len(keys))] }); wrong != "" {
					return wrong
				}
				if err := r.Free(w, x); err != api.OK {
					return err.Error()
				}
				x = y
				looks.Add(1)
			}
			if err := r.Free(w, x); err != api.OK {
				return err.Error()
			}
			return ""
		})
		if r.Pool().Faults() != 0 {
			t.Fatalf("P32.2: %d faults", r.Pool().Faults())
		}
	}
	if looks.Load() < 40 {
		t.Errorf("nobody looked: %d", looks.Load())
	}
}

// Play's calls without turns: mixed ones, each worker by its own registers. There are no faults, and each call answers.
func TestLooseCalls(t *testing.T) {
	m := mixer(77)
	scans := 0
	for range 400 {
		x := m.mixed(manners{wild: true})
		x.s.Fails = 0
		for k := range x.c.Work {
			for range 12 {
				x.c.Work[k] = append(x.c.Work[k], m.call(manners{busy: true}, x.s.Parts))
			}
		}
		r := newReal(t, x.s)
		r.plays = true
		answers, err := crew.Loose(x.c, r)
		if err != api.OK || r.Pool().Faults() != 0 {
			t.Fatalf("P32.2: %v, %d faults", err, r.Pool().Faults())
		}
		for k := range x.c.Work {
			if len(answers[k]) != len(x.c.Work[k]) || slices.ContainsFunc(answers[k], func(a api.Answer) bool { return a.Err == api.ErrCrewFell }) {
				t.Fatalf("P32.12: %+v: %+v", x, answers[k])
			}
			for i, a := range answers[k] {
				scans += bit(x.c.Work[k][i].Kind >= 16 && len(a.Pairs)+len(a.Ints) > 0)
			}
		}
	}
	if scans < 300 {
		t.Errorf("the cases are too plain: %d", scans)
	}
}
