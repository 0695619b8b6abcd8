package store_test

import (
	"maps"
	"runtime"
	"slices"
	"sync"
	"sync/atomic"
	"testing"

	"skein/api"
	"skein/crew"
)

// loose does f by so many workers, without turns; all have come when they begin. What f answers is what is wrong.
func loose(t *testing.T, promise string, workers int, f func(w *crew.Worker) []int) {
	t.Helper()
	var come atomic.Int64
	c := api.Case{Work: slices.Repeat([][]api.Call{{{}}}, workers)}
	answers, err := crew.Loose(c, does(func(w *crew.Worker, _ api.Call) api.Answer {
		come.Add(1)
		for come.Load() < int64(workers) {
			runtime.Gosched()
		}
		return api.Answer{Ints: f(w)}
	}))
	if err != api.OK || len(answers) != workers {
		t.Fatalf("Loose: %v, %v", answers, err)
	}
	for k, list := range answers {
		if len(list) != 1 || list[0].Err != api.OK || len(list[0].Ints) > 0 {
			t.Fatalf("%s: worker %d finds %+v", promise, k, list)
		}
	}
}

// wantTidy brings memory back, and asks for it: P32.3.
func (r real) wantTidy(t *testing.T, workers int) {
	t.Helper()
	for i := range r.Parts() {
		if _, err := r.Trim(nil, i); err != api.OK {
			t.Fatalf("P32.3: %v", err)
		}
	}
	if !r.Advance(nil) || !r.Advance(nil) {
		t.Fatalf("P32.3: somebody is within: %v", r.Epoch().At())
	}
	loose(t, "P32.3", workers, func(w *crew.Worker) []int {
		if _, err := r.Collect(w); err != api.OK {
			return []int{int(err)}
		}
		return nil
	})
	rows, s := r.calls.Rows(), r.state()
	if used := inUse(rows); s.used() != used || len(s.free) != len(s.slots)-used || s.faults != 0 || slices.Max(s.leases) != 0 {
		t.Fatalf("P32.3: %d slots are in use, want %d; %d faults, leases %v", s.used(), used, s.faults, s.leases)
	}
}

// keeper: a worker that makes that memory comes back; waiting: how many handles wait in its list.
type keeper struct {
	real
	w       *crew.Worker
	waiting int
}

// keep does a Trim of each part, an Advance, a Collect, and lets others go on.
func (k *keeper) keep() {
	for part := range k.Parts() {
		n, _ := k.Trim(k.w, part)
		k.waiting += n
	}
	k.Advance(k.w)
	back, _ := k.Collect(k.w)
	k.waiting -= back
	runtime.Gosched()
}

// tries: more often than anybody must wait for others.
const tries = 1000000

// write does a write again and again, as long as there is no room for it.
func (k *keeper) write(c api.Call) (api.Told, api.Errno) {
	told, err := k.told(k.w, c)
	for i := 0; err == noRoom && i < tries; i++ {
		k.keep()
		told, err = k.told(k.w, c)
	}
	return told, err
}

// empty waits till nothing waits in its list: what is left there nobody else could give back.
func (k *keeper) empty() {
	for i := 0; k.waiting > 0 && i < tries; i++ {
		k.keep()
	}
}

// Without turns, too, a part is loaded once, whoever comes.
func TestLooseLoading(t *testing.T) {
	for round := range 200 {
		s := api.Setup{Parts: 3, Workers: 8, Slots: 100, Leases: 8, Source: pairs(1, 10, 2, 20, 1<<31, 30, mostKey, 40), Fails: round % 3}
		r := newReal(t, s)
		var failures [3]atomic.Int64
		loose(t, "P32.6", 8, func(w *crew.Worker) []int {
			x, err := r.Snap(w)
			if err != api.OK {
				return []int{int(err)}
			}
			for i, key := range []int{1, 1 << 31, mostKey} {
				for {
					get := func() (api.Told, api.Errno) { return r.Get(w, key) }
					if w.Number()%2 == 0 {
						get = func() (api.Told, api.Errno) { return r.Peek(w, x, key) }
					}
					told, err := get()
					if err == fails {
						failures[i].Add(1)
					}
					if err == api.OK && (told != api.Told{Value: []int{10, 30, 40}[i], Had: true, Number: 1}) || err != api.OK && err != fails && err != busy {
						return []int{key, told.Value, told.Number, int(err)}
					}
					if err == api.OK {
						break
					}
					runtime.Gosched()
				}
			}
			if err := r.Free(w, x); err != api.OK {
				return []int{int(err)}
			}
			return nil
		})
		for i := range failures {
			if n := len(r.Chain(i).Versions()); n != 1 || failures[i].Load() > int64(round%3) {
				t.Fatalf("P32.6: part %d: %d versions, %d failures", i, n, failures[i].Load())
			}
		}
		r.wantTidy(t, 8)
	}
}

// Without turns, too: each worker has keys of its own in each part, and finds there what it wrote; in the end the map is what all wrote.
func TestLooseKeys(t *testing.T) {
	for round := range 20 {
		workers, parts := 2+round%7, 1+round%3
		s := api.Setup{Parts: parts, Workers: workers, Slots: 100 + 60*workers, Leases: 2, Source: pairs(5, 1, mostKey, 2)}
		r := newReal(t, s)
		for i := range parts {
			r.Get(nil, least(i, parts))
		}
		var lock sync.Mutex
		want := plainly(s.Source)
		loose(t, "P32.8", workers, func(w *crew.Worker) []int {
			m := mixer(1000*round + w.Number())
			mine, by := map[int]int{}, keeper{real: r, w: w}
			defer by.empty()
			last := make([]int, parts)
			for i := range 300 {
				part := m.below(parts)
				key := least(part, parts) + 100 + 10*w.Number() + m.below(4)
				was, had := mine[key]
				c := []api.Call{get(key), put(key, i), put(key, i), drop(key), swap(key, was, -i), many(key, i, key, i+1)}[m.below(6)]
				told, err := by.write(c)
				wanted, wantErr := tellsOf(mine, c)
				if err != wantErr || told.Many != wanted.Many || told.New != wanted.New || err == api.OK && c.Kind != 5 && (told.Value != was || told.Had != had) {
					return []int{c.Kind, key, told.Value, told.Number, int(err), int(wantErr)}
				}
				if err == api.OK && told.Number < last[part]+bit(told.New) {
					return []int{c.Kind, key, told.Number, last[part]}
				}
				last[part] = max(last[part], told.Number)
			}
			lock.Lock()
			defer lock.Unlock()
			maps.Copy(want, mine)
			return nil
		})
		got := map[int]int{}
		for _, row := range r.calls.Rows()[3:] {
			for j := 3; j < len(row); j += 2 {
				got[row[j]] = row[j+1]
			}
		}
		if !maps.Equal(got, want) {
			t.Fatalf("P32.8: %v, want %v", got, want)
		}
		r.wantTidy(t, workers)
	}
}

// told does a call of a key by hand.
func (r real) told(w *crew.Worker, c api.Call) (api.Told, api.Errno) {
	switch c.Kind {
	case 1:
		return r.Get(w, c.A)
	case 2:
		return r.Put(w, c.A, c.B)
	case 3:
		return r.Drop(w, c.A)
	case 4:
		return r.Swap(w, c.A, c.B, c.C)
	}
	return r.Many(w, c.Pairs)
}

// Without turns, too, a snapshot is one moment's: one worker writes a number to a part and then to another one, and two keys at once by a Many; so no snapshot shows the second one ahead of the first one, nor one key of the Many without the other one. What it shows stays.
func TestLooseMoments(t *testing.T) {
	var all atomic.Int64
	for range 150 {
		s := api.Setup{Parts: 2, Workers: 5, Slots: 120, Leases: 6, Source: pairs(1, 0, 2, 0, 3, 0, far, 0)}
		r := newReal(t, s)
		for _, key := range []int{1, far} {
			r.Get(nil, key)
		}
		var done atomic.Bool
		var looks atomic.Int64
		loose(t, "P32.1", 5, func(w *crew.Worker) []int {
			by := keeper{real: r, w: w}
			defer by.empty()
			if w.Number() == 0 {
				defer done.Store(true)
				for i := 1; i <= 250; i++ {
					for _, c := range []api.Call{put(1, i), put(far, i), many(2, i, 3, i)} {
						if told, err := by.write(c); err != api.OK || !told.New {
							return []int{i, c.Kind, int(err)}
						}
					}
				}
				return nil
			}
			for last := 0; !done.Load(); {
				x, err := r.Snap(w)
				if err != api.OK {
					return []int{int(err)}
				}
				var first [4]int
				for again := range 3 {
					for i, key := range []int{far, 1, 2, 3} {
						told, err := r.Peek(w, x, key)
						if err != api.OK || !told.Had || again > 0 && told.Value != first[i] {
							return []int{key, told.Value, first[i], int(err)}
						}
						first[i] = told.Value
					}
					by.keep()
				}
				if first[0] > first[1] || first[1] > first[0]+1 || first[2] != first[3] || first[2] > first[0] || first[1] < last {
					return first[:]
				}
				last = first[1]
				looks.Add(1)
				if err := r.Free(w, x); err != api.OK {
					return []int{int(err)}
				}
			}
			return nil
		})
		all.Add(looks.Load())
		r.wantTidy(t, 5)
	}
	if all.Load() < 60 {
		t.Errorf("nobody looked: %d", all.Load())
	}
}

// namers: two who write, and name what they see; others read by the names.
type namers struct {
	real
	lock                sync.Mutex
	shows               map[int][2]int // by stamp and name what the named snapshots show of two keys
	done                atomic.Int64
	found, missed, went *atomic.Int64
}

// shown tells whether a snapshot of that name shows that value.
func (n *namers) shown(name, key, value int) bool {
	n.lock.Lock()
	defer n.lock.Unlock()
	for id, values := range n.shows {
		if id%4 == name && value == values[bit(key == far)] {
			return true
		}
	}
	return false
}

// look reads by a name, whichever stands; what it answers is what is wrong.
func (n *namers) look(w *crew.Worker, name, key int) []int {
	told, err := n.PeekNamed(w, name, key)
	switch err {
	case api.OK:
		n.found.Add(1)
		if !n.shown(name, key, told.Value) {
			return []int{name, key, told.Value}
		}
	case unknown:
		n.missed.Add(1)
	case lost:
		n.went.Add(1)
	default:
		return []int{name, key, int(err)}
	}
	return nil
}

// lay writes, names what it sees then, and takes the name away.
func (n *namers) lay(by *keeper, name, value int) []int {
	w := by.w
	for _, key := range []int{1, far} {
		if _, err := by.write(put(key, value)); err != api.OK {
			return []int{key, int(err)}
		}
	}
	x, err := n.Snap(w)
	a, e := n.Peek(w, x, 1)
	b, f := n.Peek(w, x, far)
	if err != api.OK || e != api.OK || f != api.OK {
		return []int{int(err), int(e), int(f)}
	}
	n.lock.Lock()
	n.shows[4*x.Stamp+name] = [2]int{a.Value, b.Value}
	n.lock.Unlock()
	if err := n.Name(w, name, x); err != api.OK {
		return []int{name, int(err)}
	}
	runtime.Gosched()
	told, err := n.PeekNamed(w, name, 1)
	if err != api.OK || told != a || !n.Clock().Holds(w, x) {
		return []int{name, told.Value, a.Value, int(err)}
	}
	if err := n.Unname(w, name); err != api.OK {
		return []int{name, int(err)}
	}
	return nil
}

// Without turns, too: what is told by a name is what its snapshot shows, or that it isn't there, or went; a name's lease is held as long as it stands.
func TestLooseNames(t *testing.T) {
	var found, missed, went atomic.Int64
	for round := range 150 {
		r := newReal(t, api.Setup{Parts: 2, Workers: 6, Slots: 150, Leases: 8, Source: pairs(1, 0, far, 0)})
		for _, key := range []int{1, far} {
			r.Get(nil, key)
		}
		n := &namers{real: r, shows: map[int][2]int{}, found: &found, missed: &missed, went: &went}
		loose(t, "P18.9", 6, func(w *crew.Worker) []int {
			m, by := mixer(100*round+w.Number()), keeper{real: r, w: w}
			defer by.empty()
			if w.Number() < 2 {
				defer n.done.Add(1)
				for i := range 120 {
					if wrong := n.lay(&by, 2*w.Number()+i%2, 10*i+w.Number()); wrong != nil {
						return wrong
					}
				}
			}
			for n.done.Load() < 2 && w.Number() >= 2 {
				if wrong := n.look(w, m.below(4), m.one([]int{1, far})); wrong != nil {
					return wrong
				}
				by.keep()
			}
			return nil
		})
		if l := r.Names(nil); len(l) != 0 {
			t.Fatalf("P18.4: %v", l)
		}
		r.wantTidy(t, 6)
	}
	if found.Load() == 0 {
		t.Errorf("nobody found a name: %d missed, %d went", missed.Load(), went.Load())
	}
}

// Play's calls without turns: mixed ones, each worker by its own registers. There are no faults, what registers and names hold is held, and memory comes back.
func TestLooseCalls(t *testing.T) {
	m := mixer(77)
	for range 600 {
		x := m.mixed(manners{wild: true})
		x.s.Fails = 0
		for k := range x.c.Work {
			for range 12 {
				x.c.Work[k] = append(x.c.Work[k], m.call(manners{busy: true}, x.s.Parts))
			}
		}
		r := newReal(t, x.s)
		answers, err := crew.Loose(x.c, r)
		if err != api.OK {
			t.Fatal(err)
		}
		is := r.state()
		for k := range x.c.Work {
			if len(answers[k]) != len(x.c.Work[k]) || slices.ContainsFunc(answers[k], func(a api.Answer) bool { return a.Err == api.ErrCrewFell }) {
				t.Fatalf("P32.12: %+v: %+v", x, answers[k])
			}
			for _, y := range is.registers[k] {
				if y.Stamp != 0 && is.leases[y.Lease] != y.Stamp+1 {
					t.Fatalf("P18.8: %+v isn't held: %v", y, is.leases)
				}
			}
		}
		for _, y := range is.names {
			if !slices.Contains(is.leases, y.Value+1) {
				t.Fatalf("P18.9: %+v isn't held: %v", y, is.leases)
			}
		}
		if is.faults != 0 {
			t.Fatalf("P32.2: %d faults", is.faults)
		}
		for _, y := range is.names {
			r.Unname(nil, y.Key)
		}
		for k := range is.registers {
			for _, y := range is.registers[k] {
				if y.Stamp != 0 {
					r.Free(nil, y)
				}
			}
		}
		r.wantTidy(t, x.s.Workers)
	}
}
