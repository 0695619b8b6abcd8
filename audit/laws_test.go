package audit_test

import (
	"slices"
	"testing"

	"skein/api"
	"skein/audit"
	"skein/crew"
	"skein/store"
)

// tidy lets go of all that is held, does a Trim of each part by any worker, two Advances, and a Collect of each worker.
func (mix *mixer) tidy(t *testing.T, m *store.Store) {
	t.Helper()
	workers := len(m.Epoch().At())
	anybody := func(f func(w *crew.Worker)) { byWorker(t, mix.below(workers), f) }
	for _, x := range m.Names(nil) {
		anybody(func(w *crew.Worker) { m.Unname(w, x.Key) })
	}
	for i, word := range m.Clock().Leases() {
		if word != 0 {
			m.Free(nil, api.Snap{Lease: i, Stamp: word - 1})
		}
	}
	for part := range m.Parts() {
		want := audit.Trims(m)
		anybody(func(w *crew.Worker) {
			if n, err := m.Trim(w, part); n != want[part] || err != api.OK {
				t.Errorf("P23.7: the Trim of part %d retires %d, %v, want %d", part, n, err, want[part])
			}
		})
		want[part] = 0
		wantTrims(t, "P23.7", m, want...)
	}
	anybody(func(w *crew.Worker) { m.Advance(w) })
	anybody(func(w *crew.Worker) { m.Advance(w) })
	for k := range workers {
		if k == workers-1 && slices.ContainsFunc(audit.Uses(m), func(x api.Use) bool { return x.Kind == 4 }) {
			wantRest(t, "P23.7: ahead of the last Collect", m, false)
		}
		byWorker(t, k, func(w *crew.Worker) { m.Collect(w) })
	}
}

// P23.7, P32.3: when nobody is within and nothing is held, and all has been trimmed and given back, Rest is true, and Least, which was the same ahead, is how many slots are in use.
func TestAllComesBack(t *testing.T) {
	var mix mixer = 237
	back, empty, missing := 0, 0, 0
	for i := range 400 {
		x := mix.busyCase()
		x.c.Turns = mix.turns(300)
		if i%2 == 1 {
			mix.wild(x.c)
		}
		m, run := ran(t, x.s, x.c)
		if run.Cut || len(run.Open) > 0 {
			t.Fatalf("P23.7: %+v: %+v", x, run)
		}
		p := lawful(t, m, 0)
		least := audit.Least(m)
		used := x.s.Slots - len(p.free)
		mix.tidy(t, m)
		wantRest(t, "P23.7", m, true)
		wantLeast(t, "P23.7", m, least)
		left := x.s.Slots - len(m.Pool().Free())
		if left != least || m.Pool().Faults() != 0 {
			t.Fatalf("P23.7, P32.3: %+v: %d slots are in use, want %d; %d faults", x, left, least, m.Pool().Faults())
		}
		sums := audit.Sums(audit.Uses(m))
		if sums != (api.Sums{Free: x.s.Slots - least, Versions: sums.Versions, Nodes: least - sums.Versions}) {
			t.Fatalf("P23.7: %+v", sums)
		}
		lawful(t, m, 0)
		back += used - left
		for _, versions := range p.versions {
			if len(versions) == 0 {
				missing++
			} else if len(p.has(versions[0])) == 0 {
				empty++
			}
		}
	}
	if back < 2000 || empty < 20 || missing < 50 {
		t.Errorf("the cases are too plain: %d came back, %d parts are empty, %d not there", back, empty, missing)
	}
}

// P23.7: a Trim retires as many as Trims says, also beside calls that were halted, by a worker that has none.
func TestTrimsBesideHaltedCalls(t *testing.T) {
	takesLong(t)
	var mix mixer = 2370
	some, open := 0, 0
	for range 900 {
		x := mix.busyCase()
		x.s.Workers, x.s.Slots = 6, 40
		x.c.Turns = mix.turns(400)
		x.c.Halt = mix.halts(len(x.c.Work), 300)
		m, run := ran(t, x.s, x.c)
		open += min(1, len(run.Open))
		for part := range x.s.Parts {
			want := audit.Trims(m)
			byWorker(t, 5, func(w *crew.Worker) {
				was := len(m.Epoch().Waiting(5))
				n, err := m.Trim(w, part)
				if now := len(m.Epoch().Waiting(5)); err != api.OK || n != want[part] || now-was != n {
					t.Fatalf("P23.7: %+v: the Trim of part %d retires %d, %d, %v, want %d", x, part, n, now-was, err, want[part])
				}
				some += min(1, n)
			})
			want[part] = 0
			wantTrims(t, "P23.7", m, want...)
			lawful(t, m, len(run.Open))
		}
	}
	if some < 200 || open < 400 {
		t.Errorf("the cases are too plain: %d, %d", some, open)
	}
}

// guard follows what is retired while a worker is within, and asks that it waits.
type guard struct {
	k     int
	since int // the epoch in which it entered; 0: it isn't within
	ahead []int
	held  []int
	most  int
}

func (g *guard) look(t *testing.T, m *store.Store) {
	t.Helper()
	at := m.Epoch().At()[g.k]
	var all []int
	for k := range m.Epoch().At() {
		all = append(all, m.Epoch().Waiting(k)...)
	}
	switch {
	case at == 0:
		g.held = nil
	case g.since == 0:
		g.ahead = all
	default:
		for _, h := range all {
			if !slices.Contains(g.ahead, h) && !slices.Contains(g.held, h) {
				g.held = append(g.held, h)
			}
		}
		uses, slots := audit.Uses(m), m.Pool().Slots()
		for _, h := range g.held {
			if i := h>>40 - 1; uses[i].Kind != 4 || handle(i+1, slots[i].Gen) != h {
				t.Fatalf("P23.8: slot %d, which was retired while worker %d was within, is for %+v", i+1, g.k, uses[i])
			}
		}
		g.most = max(g.most, len(g.held))
	}
	g.since = at
}

// P23.8, P32.11: whoever is halted within, at whichever line: what others retire behind that waits on.
func TestHeldBack(t *testing.T) {
	takesLong(t)
	s := api.Setup{Parts: 2, Workers: 3, Slots: 40, Leases: 2, Source: pairs(1, 10, far, 20)}
	ahead := []api.Call{get(1), get(far), snap(0), name(7, 0), put(1, 11), trim(0)}
	others := [][]api.Call{
		{put(1, 5), trim(0), advance(), collect(), put(far, 5), trim(1), advance(), collect(), put(1, 6), put(1, 7), trim(0), advance(), advance(), collect(), get(1), trim(1)},
		{unname(7), trim(0), advance(), collect(), put(far, 9), drop(1), advance(), trim(1), trim(0), collect(), advance(), collect(), collect()},
	}
	var mix mixer = 238
	within, held := 0, 0
	for _, c := range []api.Call{get(1), put(1, 3), drop(1), swap(1, 11, 4), many(1, 7, 3, 8), peekNamed(7, 1), trim(0)} {
		from, to := linesOf(t, s, ahead...), linesOf(t, s, append(slices.Clone(ahead), c)...)
		for halt := from + 1; halt <= to; halt++ {
			x := mixed{s: s, c: work(append(slices.Clone(ahead), c), others[0], others[1])}
			x.c.Halt = []int{halt}
			x.c.Turns = append(make([]int, halt), mix.turns(350)...)
			g := guard{k: 0}
			var m *store.Store
			film(t, x, func(is *store.Store, open int) {
				m = is
				g.look(t, m)
				lawful(t, m, open)
			})
			if m.Epoch().At()[0] != 0 {
				within++
				held += len(g.held)
			}
		}
	}
	if within < 60 || held < 500 {
		t.Errorf("the cases are too plain: %d, %d", within, held)
	}
}

// P23.8, by hand: it waits on through Advances and Collects, till the worker has left.
func TestHeldBackByHand(t *testing.T) {
	m := after(t, get(1), put(1, 11))
	byWorker(t, 2, func(w *crew.Worker) { m.Epoch().Enter(w) })
	do(t, m, trim(0), put(1, 12))
	byWorker(t, 1, func(w *crew.Worker) { m.Trim(w, 0) })
	want := []api.Use{waits(0), waits(0), waits(1), waits(1), node(0, 3, 3), version(0, 3)}
	for range 4 {
		wantUses(t, "P23.8", m, want...)
		wantRest(t, "P23.8", m, false)
		for k := range 2 {
			byWorker(t, k, func(w *crew.Worker) {
				m.Advance(w)
				m.Collect(w)
			})
		}
	}
	byWorker(t, 2, func(w *crew.Worker) { m.Epoch().Leave(w) })
	wantUses(t, "P23.8", m, want...)
	m.Advance(nil)
	m.Advance(nil)
	m.Collect(nil)
	wantUses(t, "P23.8", m, isFree, isFree, waits(1), waits(1), node(0, 3, 3), version(0, 3))
	byWorker(t, 1, func(w *crew.Worker) { m.Collect(w) })
	wantUses(t, "P23.8", m, isFree, isFree, isFree, isFree, node(0, 3, 3), version(0, 3))
	wantRest(t, "P23.8", m, true)
}
