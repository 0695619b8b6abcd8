package scan_test

import (
	"maps"
	"slices"
	"testing"

	"skein/api"
)

// apply does a write to a plain map.
func apply(held map[int]int, c api.Call) {
	switch c.Kind {
	case 2:
		held[c.A] = c.B
	case 3:
		delete(held, c.A)
	case 4:
		held[c.A] = c.C
	case 5:
		for _, x := range c.Pairs {
			held[x.Key] = x.Value
		}
	}
}

// plainly: a map of pairs; of a key that stands there twice the last one.
func plainly(list []api.Pair) map[int]int {
	held := map[int]int{}
	for _, x := range list {
		held[x.Key] = x.Value
	}
	return held
}

// sourceOf: what a part holds when it is loaded.
func sourceOf(s api.Setup, n int) map[int]int {
	return plainly(slices.DeleteFunc(slices.Clone(s.Source), func(x api.Pair) bool { return !isOf(x.Key, n, s.Parts) }))
}

// changesOf: from one plain map to another one, rising.
func changesOf(a, b map[int]int) []api.Change {
	all := maps.Clone(a)
	maps.Copy(all, b)
	var list []api.Change
	for _, key := range slices.Sorted(maps.Keys(all)) {
		old, had := a[key]
		now, has := b[key]
		if had != has || old != now {
			list = append(list, api.Change{Key: key, Old: old, Had: had, New: now, Has: has})
		}
	}
	return list
}

// call: a call that a worker did, or is in the midst of; part -1: it goes to none, or to several.
type call struct {
	api.Call
	k, part    int
	begin, end int // end 0: it is open
	answer     api.Answer
}

func (c call) isWrite() bool { return c.Kind >= 2 && c.Kind <= 5 }

func (c call) isScan() bool { return c.Kind >= 16 && c.Kind <= 19 }

// at tells whether a step is between the call's first line and its last one.
func (c call) at(step int) bool { return c.begin <= step && (c.end == 0 || step <= c.end) }

// calls: all calls that were begun, of each worker in their order.
func (f filmed) calls() []call {
	var list []call
	add := func(k, i, begin, end int, a api.Answer) {
		c := f.c.Work[k][i]
		list = append(list, call{c, k, target(c, f.s.Parts), begin, end, a})
	}
	for k, answers := range f.run.Answers {
		for i, a := range answers {
			add(k, i, a.Begin, a.End, a)
		}
		for _, o := range f.run.Open {
			if o.Worker == k {
				add(k, len(answers), o.Begin, 0, api.Answer{})
			}
		}
	}
	return list
}

// version: what was published: at which step, by whom; what it holds; its stamp in the end, 0: none.
type version struct {
	step, k, handle, stamp int
	held                   map[int]int
}

// history: by part all versions, the first one first: that of number n is at n - 1.
func (f filmed) history() [][]version {
	all := make([][]version, f.s.Parts)
	for i, s := range f.moments[1:] {
		for part, list := range s.versions {
			if was := f.moments[i].versions[part]; len(list) > 0 && (len(was) == 0 || was[0] != list[0]) {
				root := s.slot(list[0]).Node.A
				all[part] = append(all[part], version{step: i + 1, k: f.picks[i].k, handle: list[0], held: plainly(s.pairsOf(root))})
			}
			if last := len(all[part]) - 1; last >= 0 && all[part][last].stamp == 0 {
				all[part][last].stamp = s.slot(all[part][last].handle).Mark
			}
		}
	}
	return all
}

// shownBy: the number of the version that a stamp shows; 0: none.
func shownBy(list []version, stamp int) int {
	for i, v := range slices.Backward(list) {
		if v.stamp != 0 && v.stamp <= stamp {
			return i + 1
		}
	}
	return 0
}

// found: what was looked at, so that the cases aren't too plain.
type found struct {
	ranges, counts, pages, diffs int // that went well
	pairs, changes               int // what they told
	partly, errors               int // errors that came behind pairs or changes; all errors of scans
	older                        int // parts of which a scan was shown not the newest version
	snaps, shown, loads, news    int
	open, back                   int
}

func (n *found) add(o found) {
	n.ranges += o.ranges
	n.counts += o.counts
	n.pages += o.pages
	n.diffs += o.diffs
	n.pairs += o.pairs
	n.changes += o.changes
	n.partly += o.partly
	n.errors += o.errors
	n.older += o.older
	n.snaps += o.snaps
	n.shown += o.shown
	n.loads += o.loads
	n.news += o.news
	n.open += o.open
	n.back += o.back
}

// checked: a film whose promises were looked at.
type checked struct {
	filmed
	found
	all   [][]version
	calls []call
}

// check holds what is promised of scans against a case of Play's calls, at each of its moments.
func check(t *testing.T, x mixed) checked {
	t.Helper()
	f := checked{filmed: wantFilm(t, "P19.6", x)}
	f.all, f.calls, f.open = f.history(), f.filmed.calls(), len(f.run.Open)
	f.checkVersions(t)
	for _, c := range f.calls {
		if c.end != 0 && c.isScan() {
			f.checkScan(t, c)
		}
	}
	f.checkMoments(t)
	f.checkFaults(t)
	return f
}

func (f *checked) callAt(k, step int) call {
	return f.calls[slices.IndexFunc(f.calls, func(c call) bool { return c.k == k && c.at(step) })]
}

// checkVersions: the first version of a part is the source's, and may be a scan's loading; each other one is a write's, and holds what that made of the one ahead.
func (f *checked) checkVersions(t *testing.T) {
	t.Helper()
	for part, list := range f.all {
		for i, v := range list {
			by := f.callAt(v.k, v.step)
			if i == 0 {
				f.loads += bit(by.isScan())
				if !maps.Equal(v.held, sourceOf(f.s, part)) || by.part != part && !by.isScan() {
					t.Fatalf("P18.1: %+v: %+v loads %v", f.mixed, by, v.held)
				}
				continue
			}
			f.news++
			want := maps.Clone(list[i-1].held)
			apply(want, by.Call)
			if !by.isWrite() || by.part != part || !maps.Equal(want, v.held) || f.moments[v.step].slot(v.handle).Node.B != i+1 {
				t.Fatalf("P16.6: %+v: %+v publishes %v, want %v", f.mixed, by, v.held, want)
			}
		}
	}
}

// view: by part what a stamp shows; nil: a part that was never loaded.
func (f *checked) view(stamp int) []map[int]int {
	var list []map[int]int
	for _, versions := range f.all {
		n := shownBy(versions, stamp)
		f.older += bit(n > 0 && n < len(versions))
		if n == 0 {
			list = append(list, nil)
		} else {
			list = append(list, versions[n-1].held)
		}
	}
	return list
}

// stampOf: that of what a register held when a call began.
func (f *checked) stampOf(c call, register int) int {
	if register < 0 || register > 3 {
		return 0
	}
	return f.moments[c.begin-1].registers[c.k][register].Stamp
}

// checkScan: P32.1, P32.7, P19.7, P19.8: a scan tells what the versions hold that its snapshot shows, by what all stamps came to be: so all that is told by one snapshot is of one moment, and is the same each time. An error is that of a part that couldn't be loaded; what was told ahead of it is all of the parts ahead.
func (f *checked) checkScan(t *testing.T, c call) {
	t.Helper()
	a := c.answer
	f.errors += bit(a.Err != api.OK)
	switch a.Err {
	case noCall, noSnap, api.ErrScanRange:
		if !sameAnswer(a, failed(a.Err)) || a.Own != 1 {
			t.Fatalf("P19.6: %+v: %+v", f.mixed, c)
		}
		return
	case api.OK, busy, fails, noRoom:
	default:
		t.Fatalf("P19.6: %+v: %+v", f.mixed, c)
	}
	x, y := f.view(f.stampOf(c, c.A)), f.view(f.stampOf(c, c.B))
	// What is told of the parts up to each one: of all of them, or, with an error, of those ahead of one that isn't there.
	var wants []api.Answer
	for parts := range f.s.Parts + 1 {
		if a.Err == api.OK && parts == f.s.Parts || a.Err != api.OK && parts < f.s.Parts && f.moments[c.end].states[parts] != 2 {
			wants = append(wants, f.tells(c, x[:parts], y[:parts], a.Err))
		}
	}
	if !slices.ContainsFunc(wants, func(want api.Answer) bool { return sameAnswer(a, want) }) {
		t.Fatalf("P32.1, P32.7: %+v: %+v, want one of %+v", f.mixed, c, wants)
	}
	f.count(c)
}

// tells: what a scan answers of some parts, by what they show.
func (f *checked) tells(c call, x, y []map[int]int, err api.Errno) api.Answer {
	all, other := map[int]int{}, map[int]int{}
	for i := range x {
		maps.Copy(all, x[i])
		maps.Copy(other, y[i])
	}
	switch {
	case c.Kind == 16:
		return api.Answer{Ok: err == api.OK, Pairs: shows(all, c.B, c.C), Err: err}
	case c.Kind == 19:
		return api.Answer{Ok: err == api.OK, Ints: numbersOf(changesOf(all, other)), Err: err}
	case err != api.OK:
		return failed(err)
	case c.Kind == 17:
		return number(len(shows(all, c.B, c.C)))
	}
	list := shows(all, c.B+1, mostKey)
	n := min(c.C, len(list))
	return api.Answer{Ok: len(list) > n, N: n, Pairs: list[:n]}
}

func (f *checked) count(c call) {
	a := c.answer
	f.pairs += len(a.Pairs)
	f.changes += len(a.Ints) / 5
	if a.Err != api.OK {
		f.partly += bit(len(a.Pairs)+len(a.Ints) > 0)
		return
	}
	f.ranges += bit(c.Kind == 16)
	f.counts += bit(c.Kind == 17)
	f.pages += bit(c.Kind == 18)
	f.diffs += bit(c.Kind == 19)
}

// snapshot: one that was taken: its steps, and by part the number of what it shows; 0: a part that was never loaded.
type snapshot struct {
	call
	shows []int
}

// checkMoments: P32.1: what snapshots show, beside what writes were done ahead of them and behind them; and beside each other.
func (f *checked) checkMoments(t *testing.T) {
	t.Helper()
	var list []snapshot
	for _, c := range f.calls {
		if c.Kind != 6 || !c.answer.Ok {
			continue
		}
		x := snapshot{call: c}
		for _, versions := range f.all {
			x.shows = append(x.shows, shownBy(versions, c.answer.M))
		}
		list = append(list, x)
	}
	f.snaps += len(list)
	for _, x := range list {
		for _, c := range f.calls {
			if !c.isWrite() || !c.answer.Ok {
				continue
			}
			f.shown++
			if n := x.shows[c.part]; c.end < x.begin && n < c.answer.M || c.begin > x.end && n >= c.answer.M {
				t.Fatalf("P32.1: %+v: %+v shows %v beside %+v", f.mixed, x.call, x.shows, c)
			}
		}
		for _, y := range list {
			above := 0
			for part, n := range x.shows {
				above |= 1*bit(n > y.shows[part]) + 2*bit(n < y.shows[part])
			}
			if above == 3 {
				t.Fatalf("P32.1: %+v: %+v shows %v, %+v shows %v", f.mixed, x.call, x.shows, y.call, y.shows)
			}
		}
	}
}

// checkFaults: P32.2: at no moment. (And how many slots were given back meanwhile.)
func (f *checked) checkFaults(t *testing.T) {
	t.Helper()
	for i, s := range f.moments {
		if s.faults != 0 {
			t.Fatalf("P32.2: %+v: behind step %d: %d faults", f.mixed, i, s.faults)
		}
		f.back += bit(i > 0 && s.used() < f.moments[i-1].used())
	}
}
