package gust_test

import (
	"math"
	"reflect"
	"slices"
	"testing"

	"skein/api"
	"skein/judge"
)

// keyOf, valueOf, partOf: by the chapter's formulas; no number here goes round.
func (b blown) keyOf(k, i int) int {
	return (1 << 32) * (i*b.p.Workers + k) / (b.p.Keys * b.p.Workers)
}

func (b blown) valueOf(j, k, i int) int {
	v := (b.p.Seed%1000 + 31*j + 7*i + k) % 1000
	if v < 0 {
		v += 1000
	}
	return v
}

func (b blown) partOf(key int) int { return key * b.p.Parts / (1 << 32) }

// follower goes through the calls of one worker, by P21.3's words, and its events, by P21.4's.
type follower struct {
	blown
	t       *testing.T
	k       int
	left    calls       // that it hasn't come to
	events  []api.Event // likewise
	waiting int
	found
}

func (b blown) follower(t *testing.T, k int) *follower {
	f := &follower{blown: b, t: t, k: k, left: slices.Clone(b.logs[k]), events: b.own(k)}
	for i := range f.left {
		f.left[i].before, f.left[i].behind = 1, math.MaxInt
		if i > 0 {
			f.left[i].before = f.left[i-1].end
		}
		if i+1 < len(f.left) {
			f.left[i].behind = f.left[i+1].begin
		}
	}
	return f
}

// found: how often calls were refused, so that nothing is too plain.
type found struct{ full, busy, waits int }

func (n *found) add(o found) {
	n.full += o.full
	n.busy += o.busy
	n.waits += o.waits
}

// take: the worker's next call, which must be that one.
func (f *follower) take(name string, a, b int) call {
	f.t.Helper()
	if len(f.left) == 0 {
		f.t.Fatalf("P21.3: %+v: worker %d doesn't %s(%d, %d)", f.p, f.k, name, a, b)
	}
	c := f.left[0]
	if c.name != name || c.a != a || c.b != b {
		f.t.Fatalf("P21.3: %+v: worker %d: %+v, want %s(%d, %d)", f.p, f.k, c, name, a, b)
	}
	f.left = f.left[1:]
	return c
}

// till: the call that isn't refused; ahead of it those that are: behind a full pool the worker makes room.
func (f *follower) till(name string, a, b int) call {
	f.t.Helper()
	for {
		c := f.take(name, a, b)
		switch c.err {
		case full:
			f.full++
			f.sweep()
		case busy:
			f.busy++
		default:
			return c
		}
	}
}

// sweep: Trim of each part, Advance, Collect.
func (f *follower) sweep() {
	f.t.Helper()
	for part := range f.p.Parts {
		f.waiting += f.take("Trim", part, 0).n
	}
	f.collect()
}

func (f *follower) collect() {
	f.t.Helper()
	f.take("Advance", 0, 0)
	f.waiting -= f.take("Collect", 0, 0).n
}

// own: the worker's events.
func (b blown) own(k int) []api.Event {
	return slices.DeleteFunc(slices.Clone(b.events), func(e api.Event) bool { return e.Worker != k })
}

// laid: a call must be laid down as that event, with times next to the call: the one is behind all that the worker did ahead of it, the other one ahead of all that it does then (of a Snap: of its Views).
func (f *follower) laid(c call, e api.Event) {
	f.t.Helper()
	if len(f.events) == 0 {
		f.t.Fatalf("P21.4: %+v: %+v isn't laid down", f.p, c)
	}
	is := f.events[0]
	f.events = f.events[1:]
	e.Worker, e.Begin, e.End = f.k, is.Begin, is.End
	if !reflect.DeepEqual(is, e) {
		f.t.Fatalf("P21.4: %+v: %+v is laid down as %+v, want %+v", f.p, c, is, e)
	}
	if is.Begin < c.before || is.Begin >= c.begin || is.End < c.end || is.End >= c.behind {
		f.t.Fatalf("P21.4: %+v: %+v has the times %d, %d", f.p, c, is.Begin, is.End)
	}
	if f.p.Workers == 1 && (is.Begin != c.begin-1 || is.End != c.end) {
		f.t.Fatalf("P21.4: %+v: %+v has the times %d, %d", f.p, c, is.Begin, is.End)
	}
}

func (f *follower) ofKey(c call) api.Event {
	return api.Event{Part: f.partOf(c.a), Key: c.a, Number: c.told.Number, Had: c.told.Had, Value: c.told.Value}
}

// write: a Drop, if v is a multiple of 4, else a Put.
func (f *follower) write(key, v int) {
	f.t.Helper()
	name, b := "Put", v
	if v%4 == 0 {
		name, b = "Drop", 0
	}
	c := f.till(name, key, b)
	if c.err != api.OK {
		return
	}
	e := f.ofKey(c)
	switch {
	case !c.told.New:
		e.Kind = api.Same
	case name == "Put":
		e.Kind, e.Has, e.New = api.Write, true, v
	default:
		e.Kind = api.Write
	}
	f.laid(c, e)
}

func (f *follower) read(key int) {
	f.t.Helper()
	if c := f.till("Get", key, 0); c.err == api.OK {
		e := f.ofKey(c)
		e.Kind = api.Read
		f.laid(c, e)
	}
}

// look: a Snap, View of each part, Free.
func (f *follower) look() {
	f.t.Helper()
	c := f.till("Snap", 0, 0)
	if c.err != api.OK {
		return
	}
	e := api.Event{Kind: api.Snapshot}
	for part := range f.p.Parts {
		v := f.till("View", part, 0)
		if v.x != c.x {
			f.t.Fatalf("P21.3: %+v: %+v isn't by the snapshot %+v", f.p, v, c)
		}
		e.Numbers = append(e.Numbers, v.n)
	}
	if free := f.take("Free", 0, 0); free.x != c.x {
		f.t.Fatalf("P21.3: %+v: %+v isn't of the snapshot %+v", f.p, free, c)
	}
	f.laid(c, e)
}

// follow goes through all that a worker did.
func (f *follower) follow() {
	f.t.Helper()
	for j := range f.p.Rounds {
		for i := range f.p.Keys {
			f.write(f.keyOf(f.k, i), f.valueOf(j, f.k, i))
		}
		next := f.k + 1
		if next == f.p.Workers {
			next = 0
		}
		f.read(f.keyOf(next, 0))
		f.look()
		f.sweep()
	}
	for f.waiting > 0 {
		f.waits++
		f.collect()
	}
	if len(f.left) > 0 {
		f.t.Fatalf("P21.3: %+v: nothing waits any more, and worker %d does %+v", f.p, f.k, f.left)
	}
	if len(f.events) > 0 {
		f.t.Fatalf("P21.4: %+v: nobody did %+v", f.p, f.events)
	}
}

// checkAlone: at the end, alone: Trim of each part, Advance twice, Collect.
func (b blown) checkAlone(t *testing.T) {
	t.Helper()
	f := b.follower(t, alone)
	for part := range b.p.Parts {
		f.take("Trim", part, 0)
	}
	f.take("Advance", 0, 0)
	f.take("Advance", 0, 0)
	f.take("Collect", 0, 0)
	if len(f.left) > 0 {
		t.Fatalf("P21.3: %+v: alone it does %+v, too", b.p, f.left)
	}
}

// check holds all that was done, and all events, against the chapter's words.
func (b blown) check(t *testing.T) found {
	t.Helper()
	var n found
	for k := range b.p.Workers {
		f := b.follower(t, k)
		f.follow()
		n.add(f.found)
	}
	if len(b.own(alone)) > 0 {
		t.Fatalf("P21.4: %+v: %+v", b.p, b.own(alone))
	}
	b.checkAlone(t)
	b.checkTimes(t)
	return n
}

// checkTimes: no ticket stands twice; all are from 1 on; the events stand worker by worker, each one's in their order.
func (b blown) checkTimes(t *testing.T) {
	t.Helper()
	if !slices.IsSortedFunc(b.events, func(x, y api.Event) int { return x.Worker - y.Worker }) {
		t.Fatalf("P21.4: %+v: %+v", b.p, b.events)
	}
	seen := map[int]int{}
	last := map[int]int{}
	for _, e := range b.events {
		seen[e.Begin]++
		seen[e.End]++
		if e.Begin < 1 || e.End <= e.Begin || e.Begin <= last[e.Worker] {
			t.Fatalf("P21.4: %+v: %+v behind %d", b.p, e, last[e.Worker])
		}
		last[e.Worker] = e.End
	}
	if len(seen) != 2*len(b.events) {
		t.Fatalf("P21.4: %+v: %d tickets of %d events", b.p, len(seen), len(b.events))
	}
}

// checkWhole: P32.9: no faults; judge finds nothing; the map is what it must be; memory has come back.
func (b blown) checkWhole(t *testing.T) {
	t.Helper()
	if len(b.events) != b.p.Workers*b.p.Rounds*(b.p.Keys+2) {
		t.Fatalf("P21.5: %+v: %d events", b.p, len(b.events))
	}
	blames, err := judge.Versions(make([][]api.Pair, b.p.Parts), b.events)
	if err != api.OK || len(blames) != 0 {
		t.Fatalf("P32.9: %+v: %v, %v", b.p, blames, err)
	}
	used, parts := 0, make([]int, b.p.Parts)
	for _, x := range b.store.Pool().Slots() {
		used += x.Gen % 2
	}
	for k := range b.p.Workers {
		if l := b.store.Epoch().Waiting(k); len(l) > 0 {
			t.Fatalf("P32.9: %+v: %v of worker %d wait", b.p, l, k)
		}
		for i := range b.p.Keys {
			key := b.keyOf(k, i)
			want := api.Told{}
			if v := b.valueOf(b.p.Rounds-1, k, i); b.p.Rounds > 0 && v%4 != 0 {
				want = api.Told{Value: v, Had: true}
				parts[b.partOf(key)]++
			}
			told, err := b.store.Get(nil, key)
			if told.Number = 0; err != api.OK || told != want {
				t.Fatalf("P32.9: %+v: %d is %+v, %v, want %+v", b.p, key, told, err, want)
			}
		}
	}
	want := 0
	if b.p.Rounds > 0 {
		want = b.p.Parts
	}
	for _, n := range parts {
		want += max(0, 2*n-1)
	}
	if faults := b.store.Pool().Faults(); used != want || faults != 0 || slices.Max(b.store.Clock().Leases()) != 0 || slices.Max(b.store.Epoch().At()) != 0 {
		t.Fatalf("P32.9: %+v: %d slots are in use, want %d; %d faults, leases %v, within %v", b.p, used, want, faults, b.store.Clock().Leases(), b.store.Epoch().At())
	}
}
