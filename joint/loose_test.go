package joint_test

import (
	"runtime"
	"slices"
	"sync/atomic"
	"testing"

	"skein/api"
	"skein/crew"
	"skein/joint"
)

// loose does f by so many workers, without turns; all have come when they begin.
func loose(t *testing.T, promise string, workers int, f func(w *crew.Worker) []int) {
	t.Helper()
	var come atomic.Int64
	c := api.Case{Work: slices.Repeat([][]api.Call{{{}}}, workers)}
	answers, err := crew.Loose(c, does(func(w *crew.Worker, _ api.Call) api.Answer {
		come.Add(1)
		for come.Load() < int64(workers) {
			runtime.Gosched()
		}
		return api.Answer{Ints: f(w)}
	}))
	if err != api.OK || len(answers) != workers {
		t.Fatalf("Loose: %v, %v", answers, err)
	}
	for k, list := range answers {
		if len(list) != 1 || list[0].Err != api.OK || len(list[0].Ints) > 0 {
			t.Fatalf("%s: worker %d finds %+v", promise, k, list)
		}
	}
}

// purse: cells between which workers move, and what each has moved.
type purse struct {
	cells *joint.Cells
	first []int
	moved [8][]int // by worker, of each cell how much came in, less what went out
	left  [8]bool  // by worker: it has descriptors
}

func newPurse(t *testing.T, n, each int) *purse {
	t.Helper()
	first := slices.Repeat([]int{each}, n)
	p := &purse{cells: newReal(t, first).all[0], first: first}
	for k := range p.moved {
		p.moved[k], p.left[k] = make([]int, n), true
	}
	return p
}

// move moves something; false: it went wrong.
func (p *purse) move(w *crew.Worker, from, to, n int) bool {
	ok, err := p.cells.Move(w, from, to, n)
	if ok {
		p.moved[w.Number()][from] -= n
		p.moved[w.Number()][to] += n
	}
	p.left[w.Number()] = err != api.ErrJointMany
	return ok == (err == api.OK) && (ok || err == api.ErrJointLess || err == api.ErrJointMany)
}

// look sums up; false: it went wrong.
func (p *purse) look(w *crew.Worker) bool {
	l, err := p.cells.Look(w)
	p.left[w.Number()] = err != api.ErrJointMany
	return err == api.ErrJointMany && len(l) == 0 || err == api.OK && len(l) == len(p.first) && sumOf(l) == sumOf(p.first) && slices.Min(l) >= 0
}

// read reads a cell; false: it went wrong.
func (p *purse) read(w *crew.Worker, c int) bool {
	n, err := p.cells.Read(w, c)
	return err == api.OK && n >= 0 && n <= sumOf(p.first)
}

// wantAll: no Move is lost, and none is done twice.
func (p *purse) wantAll(t *testing.T) {
	t.Helper()
	want := slices.Clone(p.first)
	for _, moved := range p.moved {
		for c, n := range moved {
			want[c] += n
		}
	}
	for c, n := range want {
		if got, err := p.cells.Read(nil, c); got != n || err != api.OK {
			t.Errorf("P26.9: at the end cell %d holds %d, %v, want %d", c, got, err, n)
		}
	}
}

// Without turns all calls go beside one another: no Move is lost, and Looks never show another sum.
func TestLooseMoves(t *testing.T) {
	for _, x := range []struct{ cells, workers int }{{2, 2}, {2, 8}, {3, 4}, {8, 8}, {16, 8}, {64, 8}} {
		p := newPurse(t, x.cells, 20)
		loose(t, "P26.9", x.workers, func(w *crew.Worker) []int {
			m := mixer(w.Number())
			for n := 0; n < 1500 && p.left[w.Number()]; n++ {
				good := true
				switch kind := m.below(8); {
				case kind == 0 && x.cells < 20:
					good = p.look(w)
				case kind == 1:
					good = p.read(w, m.below(x.cells))
				default:
					from := m.below(x.cells)
					good = p.move(w, from, (from+1+m.below(x.cells-1))%x.cells, m.below(6))
				}
				if !good {
					return []int{n}
				}
			}
			return nil
		})
		p.wantAll(t)
	}
}

// All Moves go round: each cell gives to the next one, so each descriptor may be in the next one's way.
func TestLooseRounds(t *testing.T) {
	p := newPurse(t, 8, 5)
	loose(t, "P26.9", 8, func(w *crew.Worker) []int {
		k := w.Number()
		for n := 0; n < 1024 && p.left[k]; n++ {
			if !p.move(w, k, (k+1)%8, 1) || n%16 == 0 && !p.look(w) {
				return []int{n}
			}
		}
		return nil
	})
	p.wantAll(t)
}

// Changes that count: cells are changed together by those that found them alike, so they are alike always, and none counts for nothing.
func TestLooseChanges(t *testing.T) {
	for _, x := range []struct{ cells, workers int }{{1, 8}, {2, 2}, {2, 8}, {5, 8}, {16, 4}} {
		cells := newReal(t, make([]int, x.cells)).all[0]
		var counted atomic.Int64
		loose(t, "P26.9", x.workers, func(w *crew.Worker) []int {
			last := 0
			for n := range 1200 {
				begun := int(counted.Load())
				v, err := cells.Read(w, n%x.cells)
				if err != api.OK || v < last || v < begun {
					return []int{n, v, last, begun}
				}
				last = v
				var l []api.Entry
				for c := range x.cells {
					l = append(l, to((c+n)%x.cells, v, v+1))
				}
				ok, err := cells.Change(w, l)
				switch {
				case ok && err == api.OK:
					counted.Add(1)
					last = v + 1
				case err == api.ErrJointMany:
					return nil
				case ok || err != api.ErrJointOther:
					return []int{n, int(err)}
				}
			}
			return nil
		})
		for c := range x.cells {
			if got, err := cells.Read(nil, c); got != int(counted.Load()) || err != api.OK {
				t.Errorf("P26.9: %d Changes were done, and cell %d holds %d, %v", counted.Load(), c, got, err)
			}
		}
	}
}

// Cells that only rise: all Looks are in one order, each worker's as they came, and each shows what had been done ahead of it.
func TestLooseLooks(t *testing.T) {
	for _, x := range []struct{ cells, workers int }{{2, 3}, {3, 8}, {8, 8}} {
		cells := newReal(t, make([]int, x.cells)).all[0]
		var seen [8][][]int
		var mine [8]int // of each worker, how often it has counted in its own cell
		loose(t, "P26.9", x.workers, func(w *crew.Worker) []int {
			k := w.Number()
			for n := range 400 {
				l, err := cells.Look(w)
				if err == api.ErrJointMany {
					return nil
				}
				if err != api.OK || k < x.cells && l[k] != mine[k] {
					return []int{n, int(err)}
				}
				seen[k] = append(seen[k], l)
				if k >= x.cells { // the cells of all others are its own alone
					continue
				}
				ok, err := cells.Change(w, []api.Entry{to(k, mine[k], mine[k]+1)})
				if ok {
					mine[k]++
				} else if err != api.ErrJointMany {
					return []int{n, int(err)}
				}
			}
			return nil
		})
		for k, list := range seen {
			if !slices.IsSortedFunc(list, func(a, b []int) int { return sumOf(a) - sumOf(b) }) {
				t.Errorf("P26.9: of %d cells worker %d's Looks don't come as they are told", x.cells, k)
			}
		}
		all := slices.Concat(seen[:]...)
		slices.SortFunc(all, func(a, b []int) int { return sumOf(a) - sumOf(b) })
		for i := range all[1:] {
			for c := range all[i] {
				if all[i][c] > all[i+1][c] {
					t.Fatalf("P26.9: of two Looks none is the other one's past: %v, %v", all[i], all[i+1])
				}
			}
		}
		for c := range x.cells {
			if got, err := cells.Read(nil, c); got != mine[c] || err != api.OK {
				t.Errorf("P26.9: cell %d holds %d, %v, want %d", c, got, err, mine[c])
			}
		}
	}
}

// Two Cells that the same workers use: neither knows of the other one.
func TestLooseTwo(t *testing.T) {
	a, z := newPurse(t, 4, 10), newPurse(t, 3, 10)
	loose(t, "P26.9", 6, func(w *crew.Worker) []int {
		m := mixer(w.Number())
		for n := range 300 {
			from := m.below(3)
			if !a.move(w, from, from+1, m.below(4)) || !a.move(w, 3, from, m.below(4)) || !z.move(w, from, (from+1)%3, m.below(4)) || !z.look(w) || n%4 == 0 && !a.look(w) {
				return []int{n}
			}
		}
		return nil
	})
	a.wantAll(t)
	z.wantAll(t)
}

// A case's calls in Loose leave nothing behind.
func TestLooseLeavesNothing(t *testing.T) {
	leavesNothing(t, "P26.9", func() {
		b := newReal(t, slices.Repeat([]int{100}, 8))
		work := make([][]api.Call, 8)
		for k := range work {
			for range api.MaxCalls / 2 {
				work[k] = append(work[k], move(k, (k+3)%8, 1), look())
			}
		}
		answers, err := crew.Loose(api.Case{Work: work}, b)
		for k, list := range answers {
			for i, a := range list {
				if i%2 == 0 && !sameAnswer(a, well()) || i%2 == 1 && (!a.Ok || sumOf(a.Ints) != 800) {
					t.Errorf("P26.9: worker %d: %+v", k, a)
				}
			}
		}
		if err != api.OK {
			t.Errorf("P26.9: %v", err)
		}
		wantValues(t, "P26.9: at the end", b.all[0], slices.Repeat([]int{100}, 8))
	})
}
