package gust_test

import (
	"sync"
	"testing"

	"skein/api"
	"skein/crew"
	"skein/gust"
	"skein/store"
	"skein/tally"
)

// What the document says in numbers.
const (
	full  api.Errno = 102
	busy  api.Errno = 152
	other api.Errno = 131 // one that nothing is said of
	slots           = 4096
	alone           = -1 // the number of who does calls with no worker
)

// call: a call that was done to a map: by whom, its name, its key or part, its value; what it answered; and the ticket that was next when it began, and when it ended.
type call struct {
	worker     int
	name       string
	a, b       int
	told       api.Told
	n          int // of a Trim, Collect: how many; of a View the number; of an Advance 1, if it was done
	x          api.Snap
	err        api.Errno
	begin, end int

	before, behind int // when the worker's call ahead of it ended, when its next one began
}

// calls: those that one worker did, in their order.
type calls []call

// record: a map that lays down what is done to it, and may refuse.
type record struct {
	of     gust.Map
	times  *tally.Ticket
	refuse func(c call, nth int) api.Errno // nth: how many calls of that name the worker has done ahead of it
	lock   sync.Mutex
	logs   map[int]calls
	many   map[call]int // by worker and name
}

func recording(of gust.Map, times *tally.Ticket, refuse func(c call, nth int) api.Errno) *record {
	return &record{of: of, times: times, refuse: refuse, logs: map[int]calls{}, many: map[call]int{}}
}

func numberOf(w *crew.Worker) int {
	if w == nil {
		return alone
	}
	return w.Number()
}

// did does a call, unless it is refused, and lays it down. (The lock isn't held meanwhile: workers go on freely.)
func (r *record) did(w *crew.Worker, c call, do func(c *call)) call {
	c.worker = numberOf(w)
	r.lock.Lock()
	nth := r.many[call{worker: c.worker, name: c.name}]
	r.many[call{worker: c.worker, name: c.name}]++
	r.lock.Unlock()
	c.begin = r.times.Now(w)
	if r.refuse != nil {
		c.err = r.refuse(c, nth)
	}
	if c.err == api.OK {
		do(&c)
	}
	c.end = r.times.Now(w)
	r.lock.Lock()
	defer r.lock.Unlock()
	r.logs[c.worker] = append(r.logs[c.worker], c)
	return c
}

func (r *record) Get(w *crew.Worker, key int) (api.Told, api.Errno) {
	c := r.did(w, call{name: "Get", a: key}, func(c *call) { c.told, c.err = r.of.Get(w, key) })
	return c.told, c.err
}

func (r *record) Put(w *crew.Worker, key, value int) (api.Told, api.Errno) {
	c := r.did(w, call{name: "Put", a: key, b: value}, func(c *call) { c.told, c.err = r.of.Put(w, key, value) })
	return c.told, c.err
}

func (r *record) Drop(w *crew.Worker, key int) (api.Told, api.Errno) {
	c := r.did(w, call{name: "Drop", a: key}, func(c *call) { c.told, c.err = r.of.Drop(w, key) })
	return c.told, c.err
}

func (r *record) Snap(w *crew.Worker) (api.Snap, api.Errno) {
	c := r.did(w, call{name: "Snap"}, func(c *call) { c.x, c.err = r.of.Snap(w) })
	return c.x, c.err
}

func (r *record) Free(w *crew.Worker, x api.Snap) api.Errno {
	return r.did(w, call{name: "Free", x: x}, func(c *call) { c.err = r.of.Free(w, x) }).err
}

func (r *record) View(w *crew.Worker, x api.Snap, part int) (int, int, api.Errno) {
	root := 0
	c := r.did(w, call{name: "View", a: part, x: x}, func(c *call) { root, c.n, c.err = r.of.View(w, x, part) })
	return root, c.n, c.err
}

func (r *record) Trim(w *crew.Worker, part int) (int, api.Errno) {
	c := r.did(w, call{name: "Trim", a: part}, func(c *call) { c.n, c.err = r.of.Trim(w, part) })
	return c.n, c.err
}

func (r *record) Advance(w *crew.Worker) bool {
	c := r.did(w, call{name: "Advance"}, func(c *call) {
		if r.of.Advance(w) {
			c.n = 1
		}
	})
	return c.n == 1
}

func (r *record) Collect(w *crew.Worker) (int, api.Errno) {
	c := r.did(w, call{name: "Collect"}, func(c *call) { c.n, c.err = r.of.Collect(w) })
	return c.n, c.err
}

// blown: a plan that was done over a map that was recorded.
type blown struct {
	p      gust.Plan
	store  *store.Store
	logs   map[int]calls
	events []api.Event
}

// blow does a plan over a map as storm makes it, but with so many slots.
func blow(t *testing.T, p gust.Plan, room int, refuse func(c call, nth int) api.Errno) blown {
	t.Helper()
	s, err := store.New(api.Setup{Parts: p.Parts, Workers: p.Workers, Slots: room, Leases: p.Workers})
	if err != api.OK {
		t.Fatalf("P18.1: %v", err)
	}
	times := tally.NewTicket(1)
	r := recording(s, times, refuse)
	return blown{p: p, store: s, events: gust.Blow(p, r, times), logs: r.logs}
}

func plan(parts, workers, rounds, keys, seed int) gust.Plan {
	return gust.Plan{Parts: parts, Workers: workers, Rounds: rounds, Keys: keys, Seed: seed}
}
