package store_test

import (
	"maps"
	"slices"
	"testing"

	"skein/api"
)

// apply does a write to a plain map: whether it changes it, and, of a Many, how many of its Puts do. (A Swap's old value is held against the map by who asks.)
func apply(held map[int]int, c api.Call) (bool, int) {
	switch c.Kind {
	case 2:
		return lay(held, c.A, c.B), 0
	case 3:
		_, had := held[c.A]
		delete(held, c.A)
		return had, 0
	case 4:
		return lay(held, c.A, c.C), 0
	case 5:
		puts := 0
		for _, x := range c.Pairs {
			puts += bit(lay(held, x.Key, x.Value))
		}
		return puts > 0, puts // though all may be as it was: the root is another one
	}
	return false, 0
}

// lay gives a key a value: whether it had another one, or none.
func lay(held map[int]int, key, value int) bool {
	is, had := held[key]
	held[key] = value
	return !had || is != value
}

// plainly: a map of pairs; of a key that stands there twice the last one.
func plainly(list []api.Pair) map[int]int {
	held := map[int]int{}
	for _, x := range list {
		held[x.Key] = x.Value
	}
	return held
}

// sourceOf: what a part holds when it is loaded.
func sourceOf(s api.Setup, n int) map[int]int {
	return plainly(slices.DeleteFunc(slices.Clone(s.Source), func(x api.Pair) bool { return !isOf(x.Key, n, s.Parts) }))
}

// tellsOf: what a call tells of a plain map that it is done to: Value, Had, whether it changes it, how often a Many does; or its error.
func tellsOf(held map[int]int, c api.Call) (api.Told, api.Errno) {
	value, had := held[c.A]
	switch {
	case c.Kind == 4 && !had:
		return api.Told{}, notThere
	case c.Kind == 4 && value != c.B:
		return api.Told{}, other
	}
	changes, puts := apply(held, c)
	if c.Kind == 5 {
		return api.Told{New: changes, Many: puts}, api.OK
	}
	return api.Told{Value: value, Had: had, New: changes}, api.OK
}

// call: a call that a worker did, or is in the midst of; part -1: it goes to none.
type call struct {
	api.Call
	k, part    int
	begin, end int // end 0: it is open
	answer     api.Answer
}

func (c call) isWrite() bool { return c.Kind >= 2 && c.Kind <= 5 }

// at tells whether a step is between the call's first line and its last one.
func (c call) at(step int) bool { return c.begin <= step && (c.end == 0 || step <= c.end) }

// calls: all calls that were begun, of each worker in their order.
func (f filmed) calls() []call {
	var list []call
	add := func(k, i, begin, end int, a api.Answer) {
		c := f.c.Work[k][i]
		list = append(list, call{c, k, target(c, f.s.Parts), begin, end, a})
	}
	for k, answers := range f.run.Answers {
		for i, a := range answers {
			add(k, i, a.Begin, a.End, a)
		}
		for _, o := range f.run.Open {
			if o.Worker == k {
				add(k, len(answers), o.Begin, 0, api.Answer{})
			}
		}
	}
	return list
}

// stepsOf: the steps that were a call's lines.
func (f filmed) stepsOf(c call) []int {
	var list []int
	for i, p := range f.picks {
		if p.k == c.k && c.at(i+1) {
			list = append(list, i+1)
		}
	}
	return list
}

// version: what was published: at which step, by whom; what it holds; its stamp in the end, 0: none.
type version struct {
	step, k, handle, stamp int
	held                   map[int]int
	deep                   int // how many nodes stand on its longest way
}

// history: by part all versions, the first one first: that of number n is at n - 1.
func (f filmed) history() [][]version {
	all := make([][]version, f.s.Parts)
	for i, s := range f.moments[1:] {
		for part, list := range s.versions {
			if was := f.moments[i].versions[part]; len(list) > 0 && (len(was) == 0 || was[0] != list[0]) {
				root := s.slot(list[0]).Node.A
				_, deep := s.nodes(root)
				all[part] = append(all[part], version{step: i + 1, k: f.picks[i].k, handle: list[0], held: plainly(s.pairsOf(root)), deep: deep})
			}
			if last := len(all[part]) - 1; last >= 0 && all[part][last].stamp == 0 {
				all[part][last].stamp = s.slot(all[part][last].handle).Mark
			}
		}
	}
	return all
}

// shownBy: the number of the version that a stamp shows; 0: none.
func shownBy(list []version, stamp int) int {
	for i, v := range slices.Backward(list) {
		if v.stamp != 0 && v.stamp <= stamp {
			return i + 1
		}
	}
	return 0
}

// found: what was looked at, so that the cases aren't too plain.
type found struct {
	news, sames, gets, loads, peeks, byName, lost, errors int
	snaps, shown, apart                                   int // snapshots, writes held against them, pairs that show not the same
	again, back, kept, rests, open                        int // rounds; slots given back, and such as somebody within holds back
}

func (n *found) add(o found) {
	n.news += o.news
	n.sames += o.sames
	n.gets += o.gets
	n.loads += o.loads
	n.peeks += o.peeks
	n.byName += o.byName
	n.lost += o.lost
	n.errors += o.errors
	n.snaps += o.snaps
	n.shown += o.shown
	n.apart += o.apart
	n.again += o.again
	n.back += o.back
	n.kept += o.kept
	n.rests += o.rests
	n.open += o.open
}

// checked: a film whose promises were looked at.
type checked struct {
	filmed
	found
	all   [][]version
	calls []call
}

// check holds the promises of the whole against a case of Play's calls, at each of its moments.
func check(t *testing.T, x mixed) checked {
	t.Helper()
	f := checked{filmed: wantFilm(t, "P18.8", x)}
	f.all, f.calls, f.open = f.history(), f.filmed.calls(), len(f.run.Open)
	f.checkVersions(t)
	f.checkLoading(t)
	for _, c := range f.calls {
		if c.end != 0 {
			f.checkAnswer(t, c)
		}
	}
	f.checkMoments(t)
	f.checkOrder(t)
	f.checkRounds(t)
	f.checkLeases(t)
	f.checkSlots(t)
	f.checkBack(t)
	f.checkEnd(t)
	return f
}

func (f *checked) callAt(k, step int) call {
	return f.calls[slices.IndexFunc(f.calls, func(c call) bool { return c.k == k && c.at(step) })]
}

// checkVersions: numbers rise by one; each version but the first one is a write's that answered no error (P32.12), and holds what that made of the one ahead; the first one is the source's.
func (f *checked) checkVersions(t *testing.T) {
	t.Helper()
	for part, list := range f.all {
		for i, v := range list {
			x := f.moments[v.step].slot(v.handle).Node
			by := f.callAt(v.k, v.step)
			if x.B != i+1 || x.C != 0 || x.D != 0 || by.part != part {
				t.Fatalf("P16.6: %+v: step %d, of %+v, publishes %+v", f.mixed, v.step, by, x)
			}
			if i == 0 {
				f.loads++
				if !maps.Equal(v.held, sourceOf(f.s, part)) || by.Kind == 12 {
					t.Fatalf("P18.1: %+v: %+v loads %v", f.mixed, by, v.held)
				}
				continue
			}
			want := maps.Clone(list[i-1].held)
			changes, _ := apply(want, by.Call)
			if a := by.answer; !by.isWrite() || !changes || !maps.Equal(want, v.held) || by.end != 0 && (a.Err != api.OK || !a.Ok || a.M != i+1) {
				t.Fatalf("P32.12: %+v: %+v publishes %v, want %v", f.mixed, by, v.held, want)
			}
		}
	}
}

// checkLoading: P32.6: a loading succeeds once at most; there is a version behind it, and none of number 1 without one, but while its loading is open.
func (f *checked) checkLoading(t *testing.T) {
	t.Helper()
	for part := range f.s.Parts {
		for i, s := range f.moments {
			is, versions := s.states[part], len(s.versions[part])
			if is == 2 && versions == 0 || is == 0 && versions != 0 {
				t.Fatalf("P32.6: %+v: behind step %d part %d has state %d and %d versions", f.mixed, i, part, is, versions)
			}
			if i > 0 && f.moments[i-1].states[part] == 2 && is != 2 {
				t.Fatalf("P32.6: %+v: step %d: part %d isn't there any more", f.mixed, i, part)
			}
		}
	}
}

// current tells whether a version was a part's newest one at some moment of a call.
func (f *checked) current(c call, number int) bool {
	list := f.all[c.part]
	return number >= 1 && number <= len(list) && list[number-1].step <= c.end && (number == len(list) || list[number].step > c.begin)
}

// checkAnswer holds what a call answered against the versions.
func (f *checked) checkAnswer(t *testing.T, c call) {
	t.Helper()
	a := c.answer
	f.errors += bit(a.Err != api.OK)
	wrong := func(promise string, what ...any) {
		t.Helper()
		t.Fatalf("%s: %+v: %+v: %v", promise, f.mixed, c, what)
	}
	switch {
	case c.Kind == 1 && a.Err == api.OK:
		f.gets++
		if !f.current(c, a.M) || !has(f.all[c.part][a.M-1], c.A, a) {
			wrong("P32.8", f.all[c.part])
		}
		if d := f.all[c.part][a.M-1].deep; f.moments[c.begin-1].states[c.part] == 2 && a.Own > 11+d {
			wrong("P32.4", d)
		}
	case c.isWrite() && (a.Err == api.OK || a.Err == notThere || a.Err == other):
		f.checkWrite(t, c)
	case c.Kind == 8 && a.Err == api.OK:
		f.checkPeek(t, c, f.moments[c.begin-1].registers[c.k][c.A].Stamp, 3)
	case c.Kind == 8 && a.Err != noSnap && a.Err != noCall:
		f.checkRefusedRead(t, c)
	case c.Kind == 11:
		f.checkNamed(t, c)
	case c.Kind == 15:
		if !a.Ok || !slices.Equal(a.Pairs, f.moments[c.end].names) {
			wrong("P18.5", f.moments[c.end].names)
		}
	}
}

// has tells whether a version holds of a key what was told.
func has(v version, key int, a api.Answer) bool {
	value, had := v.held[key]
	return a.Ok == had && a.N == value
}

// checkWrite: what a write tells is so in the version of its Number, or in the one ahead; an error that it answers is so in one that was there meanwhile.
func (f *checked) checkWrite(t *testing.T, c call) {
	t.Helper()
	a, list := c.answer, f.all[c.part]
	fits := func(number int) bool {
		told, err := tellsOf(maps.Clone(list[number-1].held), c.Call)
		told.Number = number + bit(told.New)
		return f.current(c, number) && sameAnswer(a, played(c.Kind, told, err))
	}
	switch {
	case a.Err != api.OK:
		if !slices.ContainsFunc(upTo(len(list)), fits) {
			t.Fatalf("P16.6: %+v: %+v, of the versions %+v", f.mixed, c, list)
		}
	case a.Ok:
		f.news++
		if v := list[a.M-1]; !fits(a.M-1) || v.k != c.k || !c.at(v.step) {
			t.Fatalf("P16.6: %+v: %+v, of the versions %+v", f.mixed, c, list)
		}
	case !fits(a.M):
		t.Fatalf("P16.6: %+v: %+v, of the versions %+v", f.mixed, c, list)
	default:
		f.sames++
	}
}

// checkPeek: P32.1, P32.7: it tells of its key what the version holds that the stamp shows, by what all stamps came to be; so each of one snapshot tells the same. P32.4: the head is loaded with its line of that number.
func (f *checked) checkPeek(t *testing.T, c call, stamp, line int) {
	t.Helper()
	key, a, list := c.B, c.answer, f.all[c.part]
	n := shownBy(list, stamp)
	if n == 0 || a.M != n || !has(list[n-1], key, a) {
		t.Fatalf("P32.1, P32.7: %+v: %+v by the stamp %d, of the versions %+v", f.mixed, c, stamp, list)
	}
	f.peeks++
	if f.moments[c.begin-1].states[c.part] != 2 {
		return
	}
	head := f.stepsOf(c)[line-1]
	newer := 0
	for _, v := range list[n:] {
		newer += bit(v.step <= head)
	}
	if most := 9 + 2*newer + list[n-1].deep + 4*bit(c.Kind == 11); a.Own > most {
		t.Fatalf("P32.4: %+v: %+v: more than %d lines", f.mixed, c, most)
	}
}

// checkRefusedRead: a read by a snapshot is refused only for its key, or because its part isn't there.
func (f *checked) checkRefusedRead(t *testing.T, c call) {
	t.Helper()
	switch c.answer.Err {
	case noKey:
		if isKey(c.B) {
			t.Fatalf("P18.3: %+v: %+v", f.mixed, c)
		}
	case busy, fails, noRoom:
		if f.moments[c.begin-1].states[c.part] == 2 {
			t.Fatalf("P32.4: %+v: %+v, of a part that is there", f.mixed, c)
		}
	default:
		t.Fatalf("P18.3: %+v: %+v", f.mixed, c)
	}
}

// nameAt: the stamp that a name has behind a step; 0: it doesn't stand.
func (f *checked) nameAt(name, step int) int {
	for _, x := range f.moments[step].names {
		if x.Key == name {
			return x.Value
		}
	}
	return 0
}

// checkNamed: P18.5, P18.9: a PeekNamed tells what a Peek by the named snapshot would, of a name that stands from its first look to its second one; else that it isn't there, or went.
func (f *checked) checkNamed(t *testing.T, c call) {
	t.Helper()
	lines := f.stepsOf(c)
	if err := c.answer.Err; err == noKey || err == noWorker || err == noName {
		return
	}
	looked := lines[2] // behind Enter
	stamp := f.nameAt(c.A, looked)
	if c.answer.Err == unknown {
		if stamp != 0 {
			t.Fatalf("P18.5: %+v: %+v: it stands", f.mixed, c)
		}
		return
	}
	again := lines[len(lines)-2] // ahead of Leave
	stood := true
	for step := looked; step <= again; step++ {
		stood = stood && f.nameAt(c.A, step) == stamp
	}
	if stamp == 0 || stood == (c.answer.Err == lost) {
		t.Fatalf("P18.5: %+v: %+v: it stood: %v, with the stamp %d", f.mixed, c, stood, stamp)
	}
	switch {
	case c.answer.Err == lost:
		f.lost++
	case c.answer.Err == api.OK:
		f.byName++
		f.checkPeek(t, c, stamp, 5)
	default:
		f.checkRefusedRead(t, c)
	}
}

// snapshot: one that was taken: its steps, its stamp, and by part the number of what it shows; 0: a part that was never loaded.
type snapshot struct {
	call
	shows []int
}

// checkMoments: P32.1: what snapshots show, beside what writes were done ahead of them and behind them; and beside each other.
func (f *checked) checkMoments(t *testing.T) {
	t.Helper()
	var list []snapshot
	for _, c := range f.calls {
		if c.Kind != 6 || !c.answer.Ok {
			continue
		}
		x := snapshot{call: c}
		for _, versions := range f.all {
			x.shows = append(x.shows, shownBy(versions, c.answer.M))
		}
		list = append(list, x)
	}
	f.snaps += len(list)
	for _, x := range list {
		for _, c := range f.calls {
			if !c.isWrite() || !c.answer.Ok {
				continue
			}
			f.shown++
			if n := x.shows[c.part]; c.end < x.begin && n < c.answer.M || c.begin > x.end && n >= c.answer.M {
				t.Fatalf("P32.1: %+v: %+v shows %v beside %+v", f.mixed, x.call, x.shows, c)
			}
		}
		for _, y := range list {
			if less, more := slices.Compare(x.shows, y.shows), 0; less != 0 {
				f.apart++
				for part, n := range x.shows {
					more |= 1*bit(n > y.shows[part]) + 2*bit(n < y.shows[part])
				}
				if more == 3 {
					t.Fatalf("P32.1: %+v: %+v shows %v, %+v shows %v", f.mixed, x.call, x.shows, y.call, y.shows)
				}
			}
		}
	}
}

// checkOrder: P32.8: what ended ahead of another call is seen by it: of two writes the later one's version hasn't the lesser stamp, so no snapshot shows it alone; of a part the later number isn't the lesser one.
func (f *checked) checkOrder(t *testing.T) {
	t.Helper()
	for _, a := range f.calls {
		if a.end == 0 || a.Kind > 5 || a.answer.Err != api.OK || a.part < 0 {
			continue
		}
		for _, b := range f.calls {
			if b.begin <= a.end || b.end == 0 || b.Kind > 5 || b.answer.Err != api.OK || b.part < 0 {
				continue
			}
			if a.part == b.part && b.answer.M < a.answer.M {
				t.Fatalf("P32.8: %+v: %+v, and then %+v", f.mixed, a, b)
			}
			if a.isWrite() && a.answer.Ok && b.isWrite() && b.answer.Ok {
				if early, late := f.all[a.part][a.answer.M-1], f.all[b.part][b.answer.M-1]; early.stamp == 0 || late.stamp < early.stamp {
					t.Fatalf("P32.8: %+v: %+v with the stamp %d, and then %+v with %d", f.mixed, a, early.stamp, b, late.stamp)
				}
			}
		}
	}
}

// checkRounds: P32.5: a write's cas fails just if another one published that part since its load of the head.
func (f *checked) checkRounds(t *testing.T) {
	t.Helper()
	for _, r := range f.rounds {
		between := slices.ContainsFunc(f.all[r.part], func(v version) bool { return v.step > r.top && v.step < r.cas })
		if between == r.ok {
			t.Fatalf("P32.5: %+v: %+v", f.mixed, r)
		}
		f.again += bit(!r.ok)
	}
}

// checkLeases: P18.9: what registers hold and what names stand for is held, each by a lease of its own.
func (f *checked) checkLeases(t *testing.T) {
	t.Helper()
	for i, s := range f.moments {
		words := slices.Clone(s.leases)
		for k := range s.registers {
			for _, x := range s.registers[k] {
				if x.Stamp == 0 {
					continue
				}
				if words[x.Lease] != x.Stamp+1 {
					t.Fatalf("P18.8: %+v: behind step %d: %+v isn't held: %v", f.mixed, i, x, s.leases)
				}
				words[x.Lease] = 0
			}
		}
		for _, x := range s.names {
			at := slices.Index(words, x.Value+1)
			if at < 0 {
				t.Fatalf("P18.9: %+v: behind step %d: the lease of %+v isn't held: %v", f.mixed, i, x, s.leases)
			}
			words[at] = 0
		}
	}
}

// handles: those of all versions, and of their trees.
func (s state) handles() []int {
	seen := map[int]int{}
	for _, list := range s.versions {
		for _, h := range list {
			nodes, _ := s.nodes(s.slot(h).Node.A)
			for _, g := range append(nodes, h) {
				seen[g]++
			}
		}
	}
	return slices.Collect(maps.Keys(seen))
}

// checkSlots: P32.2: no faults. Where nobody is in the midst of a call a slot is free, or waits, or is some version's.
func (f *checked) checkSlots(t *testing.T) {
	t.Helper()
	busy := make([]bool, len(f.moments))
	for _, c := range f.calls {
		for i := c.begin; i < len(busy) && (c.end == 0 || i < c.end); i++ {
			busy[i] = true
		}
	}
	for i, s := range f.moments {
		if s.faults != 0 {
			t.Fatalf("P32.2: %+v: behind step %d: %d faults", f.mixed, i, s.faults)
		}
		if busy[i] {
			continue
		}
		f.rests++
		list := slices.Concat(append(slices.Clone(s.waiting), s.handles())...)
		slots := map[int]bool{}
		for _, h := range list {
			slots[h>>40] = true
			if s.slot(h).Gen != h%(1<<40) {
				t.Fatalf("P32.2: %+v: behind step %d %d was given back", f.mixed, i, h)
			}
		}
		if len(list) != s.used() || len(slots) != s.used() || len(s.free)+s.used() != f.s.Slots {
			t.Fatalf("P32.3: %+v: behind step %d %d slots are in use, %d are free, for %v", f.mixed, i, s.used(), len(s.free), list)
		}
	}
}

// checkBack: P32.11: nothing is given back that was retired while somebody was within who is so still.
func (f *checked) checkBack(t *testing.T) {
	t.Helper()
	since := make([]int, f.s.Workers) // by worker the step with which it came within; 0: it isn't
	retired := map[int]int{}          // by handle the step
	for i, p := range f.picks {
		was, is := f.moments[i], f.moments[i+1]
		for k := range since {
			if is.at[k] == 0 {
				since[k] = 0
			} else if was.at[k] == 0 {
				since[k] = i + 1
			}
		}
		if p.k >= len(is.waiting) {
			continue
		}
		if n := len(is.waiting[p.k]); n > len(was.waiting[p.k]) {
			retired[is.waiting[p.k][n-1]] = i + 1
		}
		for j, x := range was.slots {
			h := word(j+1, x.Gen)
			if x.Gen%2 == 0 || is.slots[j].Gen == x.Gen || retired[h] == 0 {
				continue
			}
			f.back++
			for k, step := range since {
				if step != 0 && step < retired[h] {
					t.Fatalf("P32.11: %+v: step %d gives back %d, retired with step %d; worker %d is within since step %d", f.mixed, i+1, h, retired[h], k, step)
				}
			}
		}
	}
	last := f.moments[len(f.moments)-1]
	for _, h := range slices.Concat(last.waiting...) {
		f.kept += bit(slices.ContainsFunc(since, func(step int) bool { return step != 0 && step < retired[h] }))
	}
}

// checkEnd: P32.12: a run that was cut, and not by its case, is one in which writes wait for parts whose loadings are halted.
func (f *checked) checkEnd(t *testing.T) {
	t.Helper()
	if !f.run.Cut || f.c.Until != 0 {
		return
	}
	last := f.moments[len(f.moments)-1]
	for _, c := range f.calls {
		halted := c.k < len(f.c.Halt) && f.c.Halt[c.k] > 0
		if c.end == 0 && !halted && (!c.isWrite() || last.states[c.part] != 1) {
			t.Fatalf("P32.12: %+v: %+v never ends", f.mixed, c)
		}
	}
}
