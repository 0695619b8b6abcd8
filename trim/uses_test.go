package trim_test

import (
	"runtime"
	"slices"
	"sync"
	"sync/atomic"
	"testing"

	"skein/api"
	"skein/crew"
)

// call: a call that a worker did, or is in the midst of.
type call struct {
	api.Call
	k          int
	begin, end int // end 0: it is open
	answer     api.Answer
}

// at tells whether a step is between the call's first line and its last one.
func (c call) at(step int) bool { return c.begin <= step && (c.end == 0 || step <= c.end) }

// calls: all calls that were begun, of each worker in their order.
func (f filmed) calls() []call {
	var list []call
	for k, answers := range f.run.Answers {
		for i, a := range answers {
			list = append(list, call{f.c.Work[k][i], k, a.Begin, a.End, a})
		}
		for _, o := range f.run.Open {
			if o.Worker == k {
				list = append(list, call{f.c.Work[k][len(answers)], k, o.Begin, 0, api.Answer{}})
			}
		}
	}
	return list
}

// stepsOf: the steps that were a call's lines.
func (f filmed) stepsOf(c call) []int {
	var list []int
	for i, p := range f.picks {
		if p.k == c.k && c.at(i+1) {
			list = append(list, i+1)
		}
	}
	return list
}

// found: what was looked at, so that the cases aren't too plain.
type found struct{ cuts, kept, retired, again, peeks, nones, rests, open int }

func (n *found) add(o found) {
	n.cuts += o.cuts
	n.kept += o.kept
	n.retired += o.retired
	n.again += o.again
	n.peeks += o.peeks
	n.nones += o.nones
	n.rests += o.rests
	n.open += o.open
}

// check holds the promises against a case of Play's calls, at each of its moments.
func check(t *testing.T, x mixed) found {
	t.Helper()
	f := wantFilm(t, "P17.3", x)
	n := found{open: len(f.run.Open)}
	f.checkCuts(t, &n)
	f.checkPeeks(t, &n)
	f.checkRetired(t, &n)
	f.checkSlots(t, &n)
	return n
}

// leastOf: what Least answered to a Trim, by what its lines loaded; false: it hasn't come so far.
func (f filmed) leastOf(steps []int) (int, bool) {
	if len(steps) < 3+f.leases {
		return 0, false
	}
	least := f.moments[steps[2]].now
	for i := range f.leases {
		if is := f.moments[steps[3+i]].leases[i]; is != 0 {
			least = min(least, is-1)
		}
	}
	return least, true
}

// version: what was published: at which step, its value, and its stamp in the end.
type version struct{ step, handle, value, stamp int }

// history: all versions, the first one first.
func (f filmed) history() []version {
	var list []version
	for i, s := range f.moments[1:] {
		was := f.moments[i].versions
		if len(s.versions) > 0 && (len(was) == 0 || was[0] != s.versions[0]) {
			list = append(list, version{step: i + 1, handle: s.versions[0], value: s.value(s.versions[0])})
		}
		if last := len(list) - 1; last >= 0 && list[last].stamp == 0 {
			list[last].stamp = s.slot(list[last].handle).Mark
		}
	}
	return list
}

// newestOf: the newest one of some versions that has a stamp, and none above this one.
func newestOf(list []version, stamp int) version {
	for _, v := range slices.Backward(list) {
		if v.stamp != 0 && v.stamp <= stamp {
			return v
		}
	}
	return version{}
}

// cutOffBy: what a step cut off: the link of a slot that is in use, ahead of it and behind it.
func (f filmed) cutOffBy(step int) (int, bool) {
	for i, was := range f.moments[step-1].slots {
		if is := f.moments[step].slots[i]; was.Gen == is.Gen && was.Link != is.Link {
			return was.Link, true
		}
	}
	return 0, false
}

// checkCuts: P17.3: what Trims cut off, held against what Least answered to them.
func (f filmed) checkCuts(t *testing.T, n *found) {
	t.Helper()
	all := f.history()
	byTrims := map[int]bool{} // steps
	for _, c := range f.calls() {
		if c.Kind != 7 {
			continue
		}
		steps := f.stepsOf(c)
		least, ok := f.leastOf(steps)
		for _, step := range steps {
			y, cuts := f.cutOffBy(step)
			if !cuts {
				continue
			}
			was, is := f.moments[step-1], f.moments[step]
			byTrims[step] = true
			n.cuts++
			n.kept += bit(len(is.versions) > 1)
			// What it shows itself may have been cut off by another one, whose Least was later.
			shown := newestOf(slices.DeleteFunc(slices.Clone(all), func(v version) bool { return v.step >= step }), least).handle
			stays := !slices.Contains(was.versions, shown) || slices.Contains(is.versions, shown)
			if stamp := was.slot(y).Mark; !ok || stamp < 1 || stamp > least || shown == 0 || shown == y || !stays {
				t.Fatalf("P17.3: %+v: step %d cuts off %d, of stamp %d; Least is %d: %v, then %v", f.mixed, step, y, stamp, least, was.versions, is.versions)
			}
		}
	}
	for i := range f.picks {
		if _, cuts := f.cutOffBy(i + 1); cuts && !byTrims[i+1] {
			t.Fatalf("P17.3: %+v: step %d cuts off a version, and is no Trim's", f.mixed, i+1)
		}
	}
}

// checkPeeks: P17.3: a Peek tells what its snapshot shows, by what all versions' stamps came to be; so all of one snapshot tell one value. There is none just as long as there was no Begin.
func (f filmed) checkPeeks(t *testing.T, n *found) {
	t.Helper()
	all := f.history()
	var registers [8][4]api.Snap
	for _, c := range f.calls() {
		if c.end == 0 || c.A < 0 || c.A > 3 {
			continue
		}
		is := &registers[c.k][c.A]
		a := c.answer
		switch {
		case c.Kind == 4 && a.Ok:
			*is = api.Snap{Lease: a.N, Stamp: a.M}
		case c.Kind == 5 && a.Ok:
			*is = api.Snap{}
		case c.Kind == 6 && a.Err == none:
			n.nones++
			if len(f.moments[c.begin].versions) != 0 {
				t.Fatalf("P17.3: %+v: %+v finds no version", f.mixed, c)
			}
		case c.Kind == 6 && is.Stamp != 0:
			n.peeks++
			if shown := newestOf(all, is.Stamp); !a.Ok || shown.handle == 0 || a.N != shown.value {
				t.Fatalf("P17.3: %+v: %+v by %+v, of the versions %+v", f.mixed, c, *is, all)
			}
		}
	}
}

// checkRetired: P17.4: each handle is retired once at most, by a Trim; nothing that the chain has.
func (f filmed) checkRetired(t *testing.T, n *found) {
	t.Helper()
	count := map[int]int{}
	for i, p := range f.picks {
		was, is := f.moments[i], f.moments[i+1]
		if p.k >= len(is.waiting) || len(is.waiting[p.k]) <= len(was.waiting[p.k]) {
			continue
		}
		h := is.waiting[p.k][len(is.waiting[p.k])-1]
		count[h]++
		n.retired++
		c := f.callAt(p.k, i+1)
		if count[h] > 1 || c.Kind != 7 || slices.Contains(is.handles(), h) {
			t.Fatalf("P17.4: %+v: step %d retires %d, for the %d. time: %+v", f.mixed, i+1, h, count[h], is)
		}
	}
	slots := map[int]int{}
	for h := range count {
		slots[h>>40]++
		n.again += min(slots[h>>40], 2) / 2
	}
}

func (f filmed) callAt(k, step int) call {
	list := f.calls()
	return list[slices.IndexFunc(list, func(c call) bool { return c.k == k && c.at(step) })]
}

// handles: those of all versions in the chain, and of their values.
func (s state) handles() []int {
	list := slices.Clone(s.versions)
	for _, h := range s.versions {
		list = append(list, s.slot(h).Node.A)
	}
	return list
}

// checkSlots: P17.3: no faults. Where nobody is in the midst of a call: a slot is free, or waits, or the chain has it.
func (f filmed) checkSlots(t *testing.T, n *found) {
	t.Helper()
	calls := f.calls()
	for i, s := range f.moments {
		if s.faults != 0 {
			t.Fatalf("P17.3: %+v: behind step %d: %d faults", f.mixed, i, s.faults)
		}
		if slices.ContainsFunc(calls, func(c call) bool { return c.begin <= i && (c.end == 0 || i < c.end) }) {
			continue
		}
		n.rests++
		list := slices.Concat(append(s.waiting, s.handles())...)
		slots := map[int]bool{}
		for _, h := range list {
			slots[h>>40] = true
			if s.slot(h).Gen != h%(1<<40) {
				t.Fatalf("P17.3: %+v: behind step %d %d was given back", f.mixed, i, h)
			}
		}
		if len(list) != s.used() || len(slots) != s.used() || len(s.free)+s.used() != f.slots {
			t.Fatalf("P17.4: %+v: behind step %d %d slots are in use, %d are free, for %v", f.mixed, i, s.used(), len(s.free), list)
		}
	}
}

func TestPromisesOfMixedPlays(t *testing.T) {
	takesLong(t)
	var all found
	mixedPlays(2000, manners{}, func(x mixed) { all.add(check(t, x)) })
	if all.cuts < 300 || all.kept < 50 || all.retired < 500 || all.peeks < 200 || all.nones < 20 || all.rests < 1000 || all.open < 100 {
		t.Errorf("the cases are too plain: %+v", all)
	}
}

// busyCase: a case in which all write, trim and look at once, and memory comes back meanwhile.
func (m *mixer) busyCase() mixed {
	x := mixed{sizes: sizes{m.one([]int{8, 10, 14, 20}), 5, m.one([]int{1, 2, 3})}}
	for k := range 2 + m.below(3) {
		var calls []api.Call
		if k == 0 {
			calls = []api.Call{begin(1000), write(1001)}
		}
		for i := range 10 {
			value := 100*k + i
			c := [][]api.Call{
				{write(value)}, {write(value), shorten()}, {shorten(), advance()}, {advance(), collect()}, {advance(), advance(), collect()},
				{snap(0), peek(0), write(value), peek(0), free(0)}, {snap(0), shorten(), peek(0), free(0)}, {read(), shorten()},
			}
			calls = append(calls, c[m.below(len(c))]...)
		}
		x.c.Work = append(x.c.Work, calls)
	}
	x.c.Turns = make([]int, 8)
	for len(x.c.Turns) < 1000 {
		x.c.Turns = append(x.c.Turns, slices.Repeat([]int{m.below(6)}, 1+m.below(12))...)
	}
	return x
}

func TestPromisesOfBusyCases(t *testing.T) {
	takesLong(t)
	var all found
	m := mixer(2)
	for range 250 {
		all.add(check(t, m.busyCase()))
	}
	if all.cuts < 1000 || all.kept < 100 || all.retired < 2000 || all.again < 200 || all.peeks < 500 {
		t.Errorf("the cases are too plain: %+v", all)
	}
}

// linesOf: how many lines calls of worker 0 do, one behind the other.
func linesOf(z sizes, calls ...api.Call) int {
	m := newModel(z)
	lines := 0
	for _, c := range calls {
		lines += m.alone(c).Own
	}
	return lines
}

// sideBySide: the calls ahead are worker 0's, then so many lines of each worker's other calls come, then some turns.
func sideBySide(z sizes, ahead []api.Call, did []int, turns []int, others ...[]api.Call) mixed {
	x := mixed{z, work(others...)}
	x.c.Work[0] = append(slices.Clone(ahead), others[0]...)
	x.c.Turns = make([]int, linesOf(z, ahead...))
	for k, lines := range did {
		x.c.Turns = append(x.c.Turns, slices.Repeat([]int{k}, lines)...)
	}
	x.c.Turns = append(x.c.Turns, turns...)
	return x
}

// All orders, where they matter: two that trim, from Cut on; and one that trims, beside others, from At on.
func TestPromisesInEveryOrder(t *testing.T) {
	takesLong(t)
	var all found
	z := sizes{20, 3, 1}
	held := []api.Call{begin(1), write(2), write(3), snap(0), write(4)}
	open := []api.Call{begin(1), write(2), write(3)}
	const least = 2 + 1 + 1 // Enter's lines and Least's
	for _, x := range []struct {
		ahead       []api.Call
		did         []int
		one, other  []api.Call
		turns, cuts int
	}{
		{open, []int{least, least}, []api.Call{shorten()}, []api.Call{shorten()}, 11, 1},
		{held, []int{least, least}, []api.Call{shorten()}, []api.Call{shorten()}, 9, 1},
		{held, []int{0, least}, []api.Call{free(0), shorten()}, []api.Call{shorten()}, 9, 1},
		{held, []int{0, 0}, []api.Call{free(0), shorten()}, []api.Call{snap(0), peek(0)}, 9, 0},
		{held, []int{0, 2}, []api.Call{peek(0), peek(0)}, []api.Call{shorten()}, 9, 1},
		{open, []int{2, 0}, []api.Call{shorten()}, []api.Call{snap(0), peek(0), peek(0)}, 9, 0},
		{open, []int{least, 5}, []api.Call{shorten()}, []api.Call{write(7)}, 9, 1},
		{open, []int{least, 11}, []api.Call{shorten()}, []api.Call{write(7), shorten()}, 9, 1},
		{open, []int{least + 2, 0}, []api.Call{shorten(), advance(), advance(), collect()}, []api.Call{read()}, 9, 1},
		{nil, []int{6, 0}, []api.Call{begin(1), shorten()}, []api.Call{snap(0), peek(0), shorten()}, 9, 0},
	} {
		orders(2, x.turns, func(turns []int) {
			n := check(t, sideBySide(z, x.ahead, x.did, turns, x.one, x.other))
			if n.cuts < x.cuts {
				t.Fatalf("the order is too plain: %v: %+v", turns, n)
			}
			all.add(n)
		})
	}
	// Three that trim.
	orders(3, 6, func(turns []int) {
		all.add(check(t, sideBySide(z, open, []int{least + 2, least + 2, least + 2}, turns, []api.Call{shorten()}, []api.Call{shorten()}, []api.Call{shorten()})))
	})
	if all.cuts < 5000 || all.kept < 500 || all.peeks < 1000 || all.retired < 10000 {
		t.Errorf("the orders are too plain: %+v", all)
	}
}

// Whoever is halted, at whichever line: the promises hold, and others go on.
func TestPromisesBehindHalts(t *testing.T) {
	takesLong(t)
	var all found
	z := sizes{16, 3, 2}
	ahead := []api.Call{begin(1), write(2), snap(0), write(3)}
	others := []api.Call{snap(0), write(5), peek(0), shorten(), advance(), collect(), advance(), collect(), write(6), peek(0), read(), free(0), shorten(), advance(), collect(), snap(1), peek(1)}
	for _, c := range []api.Call{begin(9), write(4), read(), snap(1), free(0), peek(0), shorten(), advance(), collect()} {
		for _, more := range [][]api.Call{nil, {free(0), shorten(), advance(), advance()}} {
			list := append(slices.Clone(ahead), more...)
			at := linesOf(z, list...)
			for halt := at + 1; halt <= linesOf(z, append(list, c)...); halt++ {
				x := sideBySide(z, list, []int{halt - at}, nil, []api.Call{c}, others)
				x.c.Halt = []int{halt}
				n := check(t, x)
				all.add(n)
				run, _ := wantModel(t, "P17.3: behind a halt", x)
				if len(run.Answers[1]) != len(others) || run.Cut {
					t.Errorf("P17.3: halted in %+v: %+v", c, run)
				}
			}
		}
	}
	if all.cuts < 100 || all.peeks < 200 || all.retired < 200 || all.open < 100 {
		t.Errorf("the cases are too plain: %+v", all)
	}
}

// What a snapshot shows stays, whatever is written, trimmed and given back meanwhile; behind its Free it goes.
func TestSnapshotsStay(t *testing.T) {
	takesLong(t)
	z := sizes{40, 2, 3}
	x := mixed{z, work([]api.Call{begin(1), snap(0), write(2), snap(1), write(3), write(4), snap(2)}, nil)}
	for i := range 7 {
		x.c.Work[0] = append(x.c.Work[0], peek(0), peek(1), peek(2))
		x.c.Work[1] = append(x.c.Work[1], write(10+i), shorten(), advance(), advance(), collect())
	}
	x.c.Work[0] = append(x.c.Work[0], free(1), shorten(), peek(0), peek(2), free(0), shorten(), peek(2), free(2), shorten(), read())
	x.c.Turns = make([]int, linesOf(z, x.c.Work[0][:7]...))
	for seed := range 40 {
		m := mixer(seed)
		for range 500 {
			x.c.Turns = append(x.c.Turns, m.below(2))
		}
		check(t, x)
		run, left := wantModel(t, "P17.3: snapshots", x)
		for i, a := range run.Answers[0][7:] {
			c := x.c.Work[0][7+i]
			if c.Kind == 6 && (!a.Ok || a.N != []int{1, 2, 4}[c.A]) {
				t.Fatalf("P17.3: seed %d: call %d: %+v", seed, i, a)
			}
		}
		if left.faults != 0 || run.Cut {
			t.Fatalf("P17.3: %+v", left)
		}
		x.c.Turns = x.c.Turns[:len(x.c.Turns)-500]
	}
}

// tidied: a case whose workers first do their calls, mixed, and let go of all that they hold; then one of them does a Trim and two Advances, then each one a Collect.
func (m *mixer) tidied(x mixed, who int) mixed {
	first := make([]int, len(x.c.Work)) // how many calls of each come ahead of all Trims at the end
	for k := range x.c.Work {
		x.c.Work[k] = append(x.c.Work[k], free(0), free(1), free(2), free(3))
		first[k] = len(x.c.Work[k])
		if k == who {
			x.c.Work[k] = append(x.c.Work[k], shorten(), advance(), advance())
		}
		x.c.Work[k] = append(x.c.Work[k], collect())
	}
	next := func(r *runModel, ready []int) int {
		early := slices.DeleteFunc(slices.Clone(ready), func(k int) bool { return len(r.told.Answers[k]) >= first[k] })
		switch {
		case len(early) > 0:
			return m.one(early)
		case slices.Contains(ready, who):
			return who
		}
		return ready[0]
	}
	x.c.Halt, x.c.Until = nil, 0
	_, picks := newModel(x.sizes).run(x.c, next)
	x.c.Turns = turnsOf(picks)
	return x
}

// P17.5: memory comes back, whatever was done ahead.
func TestMemoryComesBack(t *testing.T) {
	m := mixer(9)
	begun, many := 0, 0
	for range 900 {
		x := m.mixed(manners{wild: true})
		for k := range x.c.Work {
			x.c.Work[k] = slices.DeleteFunc(x.c.Work[k], func(c api.Call) bool { return c.Kind > 100 })
		}
		who := m.below(min(len(x.c.Work), x.known()))
		x = m.tidied(x, who)
		run, left := wantModel(t, "P17.5", x)
		want := 0
		for k, answers := range run.Answers {
			for i, a := range answers {
				if x.c.Work[k][i].Kind == 1 && a.Ok {
					want = 2
				}
			}
		}
		if run.Cut || len(run.Open) != 0 || left.used() != want || len(left.free) != x.slots-want || left.faults != 0 || slices.Max(left.leases) != 0 {
			t.Fatalf("P17.5: %+v: %d slots are in use, %+v", x, left.used(), left)
		}
		_, rows, _ := x.play()
		if rows[0][1] != x.slots-want || len(rows) != 2+want/2 {
			t.Fatalf("P17.5: %+v: %v", x, rows)
		}
		begun += want / 2
		n := len(run.Answers[who])
		many += bit(run.Answers[who][n-4].N > 3)
	}
	if begun < 300 || begun > 850 || many < 50 {
		t.Errorf("the cases are too plain: %d begun, %d long ones", begun, many)
	}
}

func bit(b bool) int {
	if b {
		return 1
	}
	return 0
}

// Without a Begin, or with one that found no room, nothing is in use.
func TestMemoryWithoutABegin(t *testing.T) {
	for _, calls := range [][]api.Call{
		nil, {write(1), read(), snap(0), peek(0)}, {shorten(), shorten()}, {begin(1)}, {write(1), begin(1), begin(2)},
	} {
		slots := 1 // for the value, and not for a version
		x := (new(mixer)).tidied(mixed{sizes{slots, 2, 1}, work(slices.Clone(calls), []api.Call{write(3)})}, 0)
		if _, left := wantModel(t, "P17.5: no Begin", x); left.used() != 0 || len(left.free) != slots {
			t.Errorf("P17.5: no Begin: %+v: %+v", calls, left)
		}
	}
}

// Of a pool of few slots all come back again and again: so writes that were refused go well behind a Trim, two Advances and a Collect.
func TestMemoryComesBackAgainAndAgain(t *testing.T) {
	for slots := 4; slots <= 9; slots++ {
		r := newReal(t, sizes{slots, 1, 1}).do(t, begin(0))
		for i := range 100 {
			writes := (slots - 2) / 2
			for j := range writes {
				if err := r.write(nil, i+j); err != api.OK {
					t.Fatalf("P17.5: %d slots, round %d: %v", slots, i, err)
				}
			}
			if err := r.write(nil, -1); err != noRoom {
				t.Fatalf("P17.5: %d slots, round %d: %v", slots, i, err)
			}
			n, err := r.trim(nil)
			r.e.Advance(nil)
			r.e.Advance(nil)
			given, e := r.e.Collect(nil)
			if n != 2*writes || err != api.OK || given != n || e != api.OK || len(r.p.Free()) != slots-2 {
				t.Fatalf("P17.5: %d slots, round %d: %d, %v, %d, %v", slots, i, n, err, given, e)
			}
		}
		if r.p.Faults() != 0 {
			t.Errorf("P17.3: %d faults", r.p.Faults())
		}
	}
}

// Who is halted within holds back what is retired behind its Enter; a lease what it shows. Both hold back no more.
func TestHeldBack(t *testing.T) {
	z := sizes{12, 2, 2}
	x := sideBySide(z, []api.Call{begin(1), write(2)}, []int{3}, nil, []api.Call{read()}, []api.Call{shorten(), advance(), advance(), advance(), collect(), write(3), shorten(), read()})
	x.c.Halt = []int{linesOf(z, begin(1), write(2)) + 3}
	run, left := wantModel(t, "P17.5: held back by who is within", x)
	if a := run.Answers[1]; a[0].N != 2 || !a[1].Ok || a[2].Ok || a[3].Ok || a[4].N != 0 || a[6].N != 2 || a[7].N != 3 || left.used() != 6 {
		t.Errorf("P17.5: held back by who is within: %+v, %+v", run, left)
	}
	calls := []api.Call{begin(1), snap(0), write(2), write(3), shorten(), advance(), advance(), collect(), read(), peek(0)}
	run, left = wantModel(t, "P17.5: held back by a lease", mixed{z, work(calls)})
	if a := run.Answers[0]; a[4].N != 0 || a[7].N != 0 || a[9].N != 1 || left.used() != 6 {
		t.Errorf("P17.5: held back by a lease: %+v, %+v", run, left)
	}
}

// loose does f by so many workers, without turns; all have come when they begin.
func loose(t *testing.T, promise string, workers int, f func(w *crew.Worker) []int) {
	t.Helper()
	var come atomic.Int64
	c := api.Case{Work: slices.Repeat([][]api.Call{{{}}}, workers)}
	answers, err := crew.Loose(c, does(func(w *crew.Worker, _ api.Call) api.Answer {
		come.Add(1)
		for come.Load() < int64(workers) {
			runtime.Gosched()
		}
		return api.Answer{Ints: f(w)}
	}))
	if err != api.OK || len(answers) != workers {
		t.Fatalf("Loose: %v, %v", answers, err)
	}
	for k, list := range answers {
		if len(list) != 1 || list[0].Err != api.OK || len(list[0].Ints) > 0 {
			t.Fatalf("%s: worker %d finds %+v", promise, k, list)
		}
	}
}

// wantTidy does alone, in the names of all workers, what brings memory back, and asks for it.
func (r real) wantTidy(t *testing.T, workers, used int) {
	t.Helper()
	if _, err := r.trim(nil); err != api.OK {
		t.Fatalf("P17.5: %v", err)
	}
	if !r.e.Advance(nil) || !r.e.Advance(nil) {
		t.Fatalf("P17.5: somebody is within: %v", r.e.At())
	}
	loose(t, "P17.5", workers, func(w *crew.Worker) []int {
		if _, err := r.e.Collect(w); err != api.OK {
			return []int{int(err)}
		}
		return nil
	})
	if s := r.state(); s.used() != used || len(s.free) != len(s.slots)-used || s.faults != 0 || len(s.versions) != used/2 {
		t.Fatalf("P17.5: %d slots are in use, %+v", s.used(), s)
	}
}

// Without turns, too, each version and each value is retired once, however many trim at once.
func TestLooseTrims(t *testing.T) {
	const workers, versions = 8, 120
	for range 200 {
		r := newReal(t, sizes{2 * versions, workers, 2}).do(t, begin(0))
		for i := 1; i < versions; i++ {
			r.write(nil, i)
		}
		var sum atomic.Int64
		loose(t, "P17.4", workers, func(w *crew.Worker) []int {
			n, err := r.trim(w)
			sum.Add(int64(n))
			if err != api.OK || n != len(r.e.Waiting(w.Number())) {
				return []int{n, int(err)}
			}
			return nil
		})
		seen := map[int]bool{}
		for k := range workers {
			for _, h := range r.e.Waiting(k) {
				seen[h] = true
			}
		}
		if sum.Load() != 2*(versions-1) || len(seen) != 2*(versions-1) || len(r.x.Versions()) != 1 {
			t.Fatalf("P17.4: %d retired, %d handles, %v", sum.Load(), len(seen), r.x.Versions())
		}
		r.wantTidy(t, workers, 2)
	}
}

// Without turns, too: what snapshots show stays, no faults are counted, and memory comes back.
func TestLooseCells(t *testing.T) {
	var counts [10]atomic.Int64
	for round := range 30 {
		workers := 2 + round%7
		r := newReal(t, sizes{20 + 5*round, workers, 1 + round%5}).do(t, begin(-1))
		loose(t, "P17.3", workers, func(w *crew.Worker) []int {
			m := mixer(100*round + w.Number())
			for i := range 1500 {
				if bad := r.looseCall(w, &m, 10000*w.Number()+i, &counts); bad != nil {
					return bad
				}
			}
			return nil
		})
		r.wantTidy(t, workers, 2)
	}
	for kind := 2; kind < 10; kind++ {
		if counts[kind].Load() == 0 {
			t.Errorf("the calls are too plain: none of kind %d", kind)
		}
	}
}

// looseCall does a call that goes by chance; what it answers is what is wrong. A value is its writer's number and how many it wrote.
func (r real) looseCall(w *crew.Worker, m *mixer, value int, counts *[10]atomic.Int64) []int {
	kind := m.one([]int{2, 2, 2, 3, 4, 4, 7, 7, 8, 9})
	switch kind {
	case 2:
		if err := r.write(w, value); err == noRoom {
			return nil
		} else if err != api.OK {
			return []int{kind, int(err)}
		}
	case 3:
		if v, stamp, err := r.read(w); err != api.OK || v < -1 || v >= 80000 || stamp < 1 {
			return []int{kind, v, stamp, int(err)}
		}
	case 4:
		s, err := r.k.Take(w)
		if err == noLeases {
			return nil
		}
		v, e := r.peek(w, s)
		for range 5 {
			runtime.Gosched()
			if is, f := r.peek(w, s); is != v || f != e || e != api.OK {
				return []int{6, v, is, int(e), int(f)}
			}
			counts[6].Add(1)
		}
		if f := r.k.Release(w, s.Lease); err != api.OK || f != api.OK {
			return []int{kind, int(err), int(f)}
		}
		counts[5].Add(1)
	case 7:
		if _, err := r.trim(w); err != api.OK {
			return []int{kind, int(err)}
		}
	case 8:
		if !r.e.Advance(w) {
			return nil
		}
	case 9:
		if n, err := r.e.Collect(w); err != api.OK {
			return []int{kind, int(err)}
		} else if n == 0 {
			return nil
		}
	}
	counts[kind].Add(1)
	return nil
}

// Without turns, too: what one writes another one reads, in its order, while the chain is kept short.
func TestLooseWritesInOrder(t *testing.T) {
	for range 20 {
		r := newReal(t, sizes{40, 4, 2}).do(t, begin(0))
		var done atomic.Bool
		loose(t, "P17.3", 4, func(w *crew.Worker) []int {
			defer done.CompareAndSwap(false, w.Number() == 0)
			last := 0
			for i := 1; i <= 400; i++ {
				switch w.Number() {
				case 0:
					err := r.write(w, i)
					for tries := 0; err == noRoom && tries < 1000000; tries++ { // till the others have made room
						runtime.Gosched()
						err = r.write(w, i)
					}
					if err != api.OK {
						return []int{i, int(err)}
					}
					continue
				case 1:
					v, _, err := r.read(w)
					if err != api.OK || v < last {
						return []int{v, last, int(err)}
					}
					last = v
				}
				if _, err := r.trim(w); err != api.OK {
					return []int{int(err)}
				}
				r.e.Advance(w)
				r.e.Collect(w)
				if !done.Load() {
					i = 1
				}
			}
			return nil
		})
		if v, _, err := r.read(nil); v != 400 || err != api.OK {
			t.Fatalf("P17.2: %d, %v", v, err)
		}
		r.wantTidy(t, 4, 2)
	}
}

// Without turns, too, there is one first version; who came too late gave back what it took.
func TestLooseBegins(t *testing.T) {
	for range 200 {
		r := newReal(t, sizes{32, 8, 1})
		var lock sync.Mutex
		good := []int{}
		loose(t, "P17.2", 8, func(w *crew.Worker) []int {
			err := r.begin(w, w.Number())
			if err == api.OK {
				lock.Lock()
				defer lock.Unlock()
				good = append(good, w.Number())
			} else if err != once {
				return []int{int(err)}
			}
			if n, err := r.trim(w); n != 0 || err != api.OK {
				return []int{n, int(err)}
			}
			return nil
		})
		if v, stamp, err := r.read(nil); len(good) != 1 || v != good[0] || stamp != 1 || err != api.OK || len(r.p.Free()) != 30 {
			t.Fatalf("P17.2: %v, %d, %d, %v", good, v, stamp, err)
		}
	}
}
