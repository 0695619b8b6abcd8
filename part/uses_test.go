package part_test

import (
	"maps"
	"runtime"
	"slices"
	"sync"
	"sync/atomic"
	"testing"

	"skein/api"
	"skein/crew"
)

// apply does a write to a plain map: whether it changes it, and, of a Many, how many of its Puts do. (A Swap's old value is held against the map by who asks.)
func apply(held map[int]int, c api.Call) (bool, int) {
	switch c.Kind {
	case 2:
		return lay(held, c.A, c.B), 0
	case 3:
		_, had := held[c.A]
		delete(held, c.A)
		return had, 0
	case 4:
		return lay(held, c.A, c.C), 0
	case 5:
		puts := 0
		for _, x := range c.Pairs {
			puts += bit(lay(held, x.Key, x.Value))
		}
		return puts > 0, puts
	}
	return false, 0
}

// lay gives a key a value: whether it had another one, or none.
func lay(held map[int]int, key, value int) bool {
	is, had := held[key]
	held[key] = value
	return !had || is != value
}

// sorted: the pairs of a map, rising.
func sorted(held map[int]int) []api.Pair {
	var list []api.Pair
	for _, key := range slices.Sorted(maps.Keys(held)) {
		list = append(list, api.Pair{Key: key, Value: held[key]})
	}
	return list
}

// plainly: a map of pairs; of a key that stands there twice the last one.
func plainly(list []api.Pair) map[int]int {
	held := map[int]int{}
	for _, x := range list {
		held[x.Key] = x.Value
	}
	return held
}

// sourceOf: what a part holds when it is loaded.
func sourceOf(s api.Setup, n int) map[int]int {
	return plainly(slices.DeleteFunc(slices.Clone(s.Source), func(x api.Pair) bool { return !isOf(x.Key, n, s.Parts) }))
}

// tellsOf: what a call tells of a plain map that it is done to: Value, Had, whether it changes it, how often a Many does; or its error.
func tellsOf(held map[int]int, c api.Call) (api.Told, api.Errno) {
	value, had := held[c.A]
	switch {
	case c.Kind == 4 && !had:
		return api.Told{}, notThere
	case c.Kind == 4 && value != c.B:
		return api.Told{}, other
	}
	changes, puts := apply(held, c)
	if c.Kind == 5 {
		return api.Told{New: changes, Many: puts}, api.OK
	}
	return api.Told{Value: value, Had: had, New: changes}, api.OK
}

// version: what was published: at which step, by whom, and what it holds.
type version struct {
	step, k int
	held    map[int]int
	deep    int // how many nodes stand on its longest way
}

// found: what was looked at, so that the cases aren't too plain.
type found struct{ news, sames, gets, errors, full, late, loads, open, besides int }

func (f *found) add(o found) {
	f.news += o.news
	f.sames += o.sames
	f.gets += o.gets
	f.errors += o.errors
	f.full += o.full
	f.late += o.late
	f.loads += o.loads
	f.open += o.open
	f.besides += o.besides
}

// check holds the four promises against a case of Play's calls, at each of its moments.
func check(t *testing.T, x mixed) found {
	t.Helper()
	f := wantFilm(t, "P16.6", x)
	var n found
	versions := f.checkVersions(t, &n)
	f.checkTold(t, versions, &n)
	f.checkOrder(t)
	f.checkRounds(t, versions, &n)
	f.checkSlots(t)
	n.open += len(f.run.Open)
	return n
}

// call: a call of a part that a worker did, or is in the midst of.
type call struct {
	api.Call
	k, part    int
	begin, end int // end 0: it is open
	answer     api.Answer
}

// calls: all calls of parts that were begun.
func (f filmed) calls() []call {
	var list []call
	for k, answers := range f.run.Answers {
		for i, a := range answers {
			list = append(list, call{f.c.Work[k][i], k, target(f.c.Work[k][i], f.s.Parts), a.Begin, a.End, a})
		}
	}
	for _, o := range f.run.Open {
		c := f.c.Work[o.Worker][len(f.run.Answers[o.Worker])]
		list = append(list, call{c, o.Worker, target(c, f.s.Parts), o.Begin, 0, api.Answer{}})
	}
	return slices.DeleteFunc(list, func(c call) bool {
		if c.Kind == kindReady {
			return false
		}
		return c.Kind < 1 || c.Kind > 5 || c.part < 0
	})
}

func (c call) isWrite() bool { return c.Kind >= 2 && c.Kind <= 5 }

// at tells whether a step is one of the call's.
func (c call) at(step int) bool { return c.begin <= step && (c.end == 0 || step <= c.end) }

// checkVersions: P16.6: how versions come, and what they hold; by part, the first one first.
func (f filmed) checkVersions(t *testing.T, n *found) [][]version {
	t.Helper()
	all := make([][]version, f.s.Parts)
	calls := f.calls()
	for i, p := range f.picks {
		was, is := f.moments[i], f.moments[i+1]
		for part := range all {
			if slices.Equal(was.versions[part], is.versions[part]) {
				continue
			}
			if !slices.Equal(was.versions[part], is.versions[part][1:]) {
				t.Fatalf("P16.6: %+v: behind step %d: %v, then %v", f.mixed, i+1, was.versions, is.versions)
			}
			x := is.node(is.versions[part][0])
			_, deep := is.nodes(x.A)
			v := version{i + 1, p.k, plainly(is.holds(x.A)), deep}
			if x.B != len(all[part])+1 || x.C != 0 || x.D != 0 {
				t.Fatalf("P16.6: %+v: step %d publishes %+v", f.mixed, i+1, x)
			}
			by := calls[slices.IndexFunc(calls, func(c call) bool { return c.k == p.k && c.at(i+1) })]
			f.checkPublished(t, part, by, all[part], v, is)
			all[part] = append(all[part], v)
			n.loads += bit(x.B == 1)
		}
	}
	last := f.moments[len(f.moments)-1]
	for part, list := range last.versions {
		for i, h := range list {
			if held := all[part][len(list)-1-i].held; !maps.Equal(plainly(last.holds(last.node(h).A)), held) {
				t.Fatalf("P16.6: %+v: a version of part %d was changed: %v", f.mixed, part, held)
			}
		}
	}
	return all
}

// checkPublished: who published a version, and what it changed.
func (f filmed) checkPublished(t *testing.T, part int, by call, ahead []version, v version, is state) {
	t.Helper()
	if len(ahead) == 0 {
		if !maps.Equal(v.held, sourceOf(f.s, part)) || by.part != part && by.Kind != kindReady {
			t.Fatalf("P16.6: %+v: %+v loads part %d: %+v", f.mixed, by, part, v)
		}
		return
	}
	held := maps.Clone(ahead[len(ahead)-1].held)
	changes, _ := apply(held, by.Call)
	if !by.isWrite() || by.part != part || !changes || !maps.Equal(held, v.held) {
		t.Fatalf("P16.6: %+v: %+v publishes %v, want %v", f.mixed, by, v.held, held)
	}
	if by.end != 0 && (!by.answer.Ok || by.answer.M != len(ahead)+1) {
		t.Fatalf("P16.6: %+v: %+v has published the version %d", f.mixed, by, len(ahead)+1)
	}
	newer, _ := is.nodes(is.node(is.versions[part][0]).A)
	older, _ := is.nodes(is.node(is.versions[part][1]).A)
	set := slices.DeleteFunc(older, func(h int) bool { return slices.Contains(newer, h) })
	if !slices.Equal(slices.Sorted(slices.Values(set)), slices.Sorted(slices.Values(is.sets[part][0]))) {
		t.Fatalf("P16.3: %+v: the set of version %d: %v, want %v", f.mixed, len(ahead)+1, is.sets[part][0], set)
	}
}

// checkTold: P16.6, P16.7: what calls tell is so in the version of their Number, and that was the newest one while they were done.
func (f filmed) checkTold(t *testing.T, versions [][]version, n *found) {
	t.Helper()
	for _, c := range f.calls() {
		if c.Kind == kindReady || c.end == 0 {
			continue
		}
		a := c.answer
		if a.Err != api.OK {
			n.errors++
			n.full += bit(a.Err == noRoom)
			continue
		}
		least, most := len(f.moments[c.begin-1].versions[c.part]), len(f.moments[c.end].versions[c.part])
		if a.M < max(1, least) || a.M > most || a.Ok && a.M == least {
			t.Fatalf("P16.7: %+v: %+v tells a version of %d to %d", f.mixed, c, least, most)
		}
		list := versions[c.part]
		read := list[a.M-1]
		if a.Ok {
			read = list[a.M-2]
			if v := list[a.M-1]; v.k != c.k || !c.at(v.step) {
				t.Fatalf("P16.6: %+v: %+v didn't publish its version", f.mixed, c)
			}
		}
		want, err := tellsOf(maps.Clone(read.held), c.Call)
		want.Number = a.M
		if err != api.OK || !sameAnswer(a, full(want, api.OK)) {
			t.Fatalf("P16.6: %+v: %+v, want %+v, %v of %v", f.mixed, c, want, err, read.held)
		}
		switch {
		case a.Ok:
			n.news++
		case c.Kind == 1:
			n.gets++
		default:
			n.sames++
		}
		if c.Kind == 1 && f.moments[c.begin-1].states[c.part] == 2 && a.Own > 11+read.deep {
			t.Fatalf("P16.7: %+v: %+v does %d lines, a way has %d nodes", f.mixed, c, a.Own, read.deep)
		}
	}
}

// checkOrder: P16.7: a call that begins behind another one's end tells no lesser Number.
func (f filmed) checkOrder(t *testing.T) {
	t.Helper()
	list := slices.DeleteFunc(f.calls(), func(c call) bool { return c.Kind == kindReady || c.end == 0 || c.answer.Err != api.OK })
	for _, a := range list {
		for _, b := range list {
			if a.part == b.part && a.end < b.begin && (b.answer.M < a.answer.M || b.answer.Ok && b.answer.M == a.answer.M) {
				t.Fatalf("P16.7: %+v: %+v, then %+v", f.mixed, a, b)
			}
		}
	}
}

// checkRounds: P16.8: a write goes round just if another one published between its Top and its Push.
func (f filmed) checkRounds(t *testing.T, versions [][]version, n *found) {
	t.Helper()
	for _, is := range f.rounds {
		between := slices.ContainsFunc(versions[is.part], func(v version) bool { return v.k != is.k && v.step > is.top && v.step < is.cas })
		if between == is.ok {
			t.Fatalf("P16.8: %+v: %+v, of %+v", f.mixed, is, versions[is.part])
		}
		n.late += bit(!is.ok)
		n.besides += bit(is.ok && slices.ContainsFunc(f.rounds, func(o round) bool { return o.part != is.part && o.cas > is.top && o.cas < is.cas }))
	}
}

// checkSlots: P16.9: what slots are for, at each moment.
func (f filmed) checkSlots(t *testing.T) {
	t.Helper()
	calls := f.calls()
	for i, s := range f.moments {
		for _, at := range s.waiting {
			if len(at) > 0 {
				t.Fatalf("P16.9: %+v: behind step %d %v waits", f.mixed, i, at)
			}
		}
		uses := make([]int, f.s.Slots+1) // by slot: 0: none; 1: it is free; else the part that has it, and 2
		count := len(s.free)
		for _, slot := range s.free {
			uses[slot] = 1
		}
		for part, list := range s.versions {
			for _, h := range list {
				nodes, _ := s.nodes(s.node(h).A)
				for _, g := range append(nodes, h) {
					is := &uses[g>>40]
					if *is != 0 && *is != part+2 || s.slots[g>>40-1].Gen != g%(1<<40) {
						t.Fatalf("P16.9: %+v: behind step %d slot %d is for two things", f.mixed, i, g>>40)
					}
					count += bit(*is == 0)
					*is = part + 2
				}
			}
		}
		inMidst := slices.ContainsFunc(calls, func(c call) bool { return c.begin <= i && (c.end == 0 || i < c.end) })
		if s.faults != 0 || count != f.s.Slots && !inMidst {
			t.Fatalf("P16.9: %+v: behind step %d: %d faults, %d slots of %d have a use", f.mixed, i, s.faults, count, f.s.Slots)
		}
	}
}

func TestPromisesOfMixedPlays(t *testing.T) {
	takesLong(t)
	var all found
	mixedPlays(700, manners{}, func(x mixed) { all.add(check(t, x)) })
	if all.news < 500 || all.sames < 300 || all.gets < 200 || all.errors < 500 || all.full < 200 || all.late < 50 || all.open < 100 || all.loads < 200 || all.besides < 10 {
		t.Errorf("the cases are too plain: %+v", all)
	}
}

// busyCase: a case in which all write few keys of few parts at once.
func (m *mixer) busyCase() mixed {
	n := 1 + m.below(2)
	x := mixed{s: crewOf(parts(n, m.one([]int{20, 30, 60, 100})), 6)}
	for range m.below(5) {
		x.s.Source = append(x.s.Source, api.Pair{Key: least(m.below(n), n) + m.below(4), Value: m.below(3)})
	}
	for range 2 + m.below(4) {
		var calls []api.Call
		for range 6 {
			c := m.call(x.s, manners{})
			for c.Kind > 5 {
				c = m.call(x.s, manners{})
			}
			calls = append(calls, c)
		}
		x.c.Work = append(x.c.Work, calls)
	}
	for range 500 {
		x.c.Turns = append(x.c.Turns, m.below(6))
	}
	return x
}

func TestPromisesOfBusyCases(t *testing.T) {
	takesLong(t)
	var all found
	m := mixer(2)
	for range 120 {
		all.add(check(t, m.busyCase()))
	}
	if all.news < 400 || all.sames < 100 || all.gets < 100 || all.full < 100 || all.late < 200 || all.besides < 50 {
		t.Errorf("the cases are too plain: %+v", all)
	}
}

// Two calls side by side, each broken off once by the other one, at each pair of lines.
func TestPromisesOfTwoSideBySide(t *testing.T) {
	takesLong(t)
	var all found
	for _, calls := range [][2]api.Call{
		{put(1, 1), put(2, 2)}, {put(5, 1), put(5, 2)}, {put(5, 1), put(5, 1)}, {put(5, 1), drop(5)}, {drop(5), drop(5)}, {swap(5, 50, 1), swap(5, 50, 2)},
		{get(5), put(5, 1)}, {get(5), drop(5)}, {get(5), many(5, 1, 6, 1, 5, 2)},
	} {
		lines := newModel(example(16))
		lines.alone(ready(0))
		own := lines.alone(calls[0]).Own
		for i := range own + 1 {
			for j := range own + 3 {
				x := mixed{example(16), work([]api.Call{ready(0), calls[0]}, []api.Call{calls[1]})}
				x.c.Turns = append(make([]int, loadOwn+i), slices.Repeat([]int{1}, j)...)
				x.c.Turns = append(x.c.Turns, make([]int, 80)...)
				all.add(check(t, x))
			}
		}
	}
	if all.news < 3000 || all.sames < 300 || all.gets < 200 || all.errors < 200 || all.late < 1000 {
		t.Errorf("the cases are too plain: %+v", all)
	}
}

// everyOrder holds the promises against every order of some turns of a case, behind those that are given; the others come round and round.
func everyOrder(t *testing.T, turns int, x mixed, n *found) {
	t.Helper()
	ahead := x.c.Turns
	orders(len(x.c.Work), turns, func(list []int) {
		x.c.Turns = append(slices.Clone(ahead), list...)
		n.add(check(t, x))
	})
}

// Every order, where it matters most: from Top on, and from the lines ahead of the cas on.
func TestPromisesInEveryOrder(t *testing.T) {
	takesLong(t)
	var all found
	empty := parts(1, 16)
	const loadEmpty = 8
	ahead := func(first, second int) []int {
		return append(make([]int, loadEmpty+first), slices.Repeat([]int{1}, second)...)
	}
	for _, x := range []struct {
		calls         [2]api.Call
		first, second int
	}{
		{[2]api.Call{put(1, 1), put(2, 2)}, 3, 3}, {[2]api.Call{put(1, 1), put(2, 2)}, 9, 9}, {[2]api.Call{put(1, 1), get(1)}, 10, 0}, {[2]api.Call{put(1, 1), drop(1)}, 10, 3},
	} {
		k := mixed{empty, work([]api.Call{ready(0), x.calls[0]}, []api.Call{x.calls[1]})}
		k.c.Turns = ahead(x.first, x.second)
		everyOrder(t, 10, k, &all)
	}
	// Three, who all have made what they publish.
	k := mixed{empty, work([]api.Call{ready(0), put(1, 1)}, []api.Call{put(2, 2)}, []api.Call{put(1, 3)})}
	k.c.Turns = slices.Concat(ahead(9, 9), slices.Repeat([]int{2}, 9))
	everyOrder(t, 6, k, &all)
	// Two who come to a part that isn't there.
	k = mixed{empty, work([]api.Call{get(1)}, []api.Call{put(1, 1)})}
	everyOrder(t, 10, k, &all)
	if all.news < 2000 || all.gets < 300 || all.late < 1000 {
		t.Errorf("the orders are too plain: %+v", all)
	}
}

// Writes of unlike parts go side by side: nobody goes round, but in the pool's pile.
func TestUnlikePartsSideBySide(t *testing.T) {
	s := parts(2, 60, 5, 50, mostKey, 9)
	for at := range putOwn + 1 {
		x := mixed{s, work([]api.Call{ready(0), put(7, 70), get(7)}, []api.Call{ready(1), put(mostKey-2, 8), get(mostKey)})}
		x.c.Turns = slices.Concat(make([]int, loadOwn), slices.Repeat([]int{1}, loadOwn), make([]int, at), slices.Repeat([]int{1}, putOwn+9))
		n := check(t, x)
		f := wantFilm(t, "P16.8: unlike parts", x)
		a, b := f.run.Answers[0], f.run.Answers[1]
		if n.late != 0 || !sameAnswer(a[1], made(2)) || !sameAnswer(b[1], made(2)) || b[1].Own != putOwn || !sameAnswer(a[2], has(70, 2)) || !sameAnswer(b[2], has(9, 2)) {
			t.Errorf("P16.8: broken off behind %d lines: %+v", at, f.run)
		}
	}
	m := mixer(7)
	for range 8 {
		x := mixed{crewOf(parts(6, 120), 8), work()}
		for k := range 6 {
			lo := least(k, 6)
			x.c.Work = append(x.c.Work, []api.Call{put(lo, k), many(lo, 1, lo+1, 2, lo, 3), drop(lo), swap(lo+1, 2, 5), get(lo + 1)})
		}
		for range 500 {
			x.c.Turns = append(x.c.Turns, m.below(6))
		}
		n := check(t, x)
		if n.late != 0 || n.news != 24 || n.errors != 0 || n.besides == 0 {
			t.Errorf("P16.8: side by side: %+v", n)
		}
	}
}

// Whoever is halted, wherever: the promises hold, and Gets of others go on.
func TestPromisesBehindHalts(t *testing.T) {
	var all found
	for _, c := range []api.Call{put(5, 51), put(7, 70), drop(5), swap(5, 50, 1), many(5, 1, 6, 2, 5, 3)} {
		lines := newModel(example(60))
		lines.alone(ready(0))
		own := lines.alone(c).Own
		for halt := loadOwn + 1; halt <= loadOwn+own; halt++ {
			x := mixed{example(60), work([]api.Call{ready(0), c}, []api.Call{get(5), put(6, 60), get(6), drop(5), get(5)})}
			x.c.Turns, x.c.Halt = make([]int, halt), []int{halt}
			n := check(t, x)
			all.add(n)
			f := wantFilm(t, "P16.7: behind a halt", x)
			if len(f.run.Answers[1]) != 5 || n.late != 0 || f.run.Cut {
				t.Errorf("P16.7: halted behind %d lines: %+v", halt-loadOwn, f.run)
			}
		}
	}
	// In the midst of a write that goes round, too.
	for _, call := range []api.Call{put(1, 1), drop(5), many(5, 1, 6, 2, 5, 3)} {
		x := brokenOff(example(60), call, 7, put(2, 2), get(2), get(5), put(3, 3), get(3))
		x.c.Turns = x.c.Turns[:loadOwn+7+putOwn]
		x.c.Turns = append(x.c.Turns, make([]int, 90)...)
		lines := wantFilm(t, "P16.8: it goes round", x).run.Answers[0][1].Own
		for halt := loadOwn + 8; halt <= loadOwn+lines; halt++ {
			x.c.Halt = []int{halt}
			n := check(t, x)
			all.add(n)
			if n.gets != 3 || n.news < 2 {
				t.Errorf("P16.7: halted behind %d lines: %+v", halt-loadOwn, n)
			}
		}
	}
	if all.open < 150 || all.gets < 300 || all.late < 50 {
		t.Errorf("the cases are too plain: %+v", all)
	}
}

// plain: what calls alone must answer: a plain map for each part, and how often it was changed.
type plain struct {
	s       api.Setup
	held    []map[int]int
	numbers []int
}

func newPlain(s api.Setup) *plain {
	p := &plain{s: s}
	for i := range s.Parts {
		p.held, p.numbers = append(p.held, sourceOf(s, i)), append(p.numbers, 1)
	}
	return p
}

func (p *plain) do(c api.Call) (api.Told, api.Errno) {
	n := target(c, p.s.Parts)
	if n < 0 || c.Kind == 5 && slices.ContainsFunc(c.Pairs, func(x api.Pair) bool { return !isOf(x.Key, n, p.s.Parts) }) {
		return api.Told{}, noKey
	}
	told, err := tellsOf(p.held[n], c)
	if err != api.OK {
		return told, err
	}
	p.numbers[n] += bit(told.New)
	told.Number = p.numbers[n]
	return told, api.OK
}

// Alone, calls answer what a plain map would, and Number counts the changes.
func TestAlone(t *testing.T) {
	m := mixer(5)
	errs := map[api.Errno]int{}
	for range 60 {
		x := m.mixed(manners{})
		s := failing(x.s, 0)
		s.Slots = mostSlots
		r, p := newReal(t, s), newPlain(s)
		for range 150 {
			c := m.call(s, manners{wild: true})
			if c.Kind < 1 || c.Kind > 5 {
				continue
			}
			want, err := p.do(c)
			var got api.Told
			e := noKey
			if n := target(c, s.Parts); n >= 0 {
				got, e = r.ofPart(nil, n, c)
			}
			if got != want || e != err {
				t.Fatalf("P16.10: %+v: %+v: %+v, %v, want %+v, %v", s, c, got, e, want, err)
			}
			errs[e]++
		}
	}
	if errs[api.OK] < 5000 || errs[notThere] < 100 || errs[other] < 100 || errs[noKey] < 100 {
		t.Errorf("the calls are too plain: %v", errs)
	}
}

// Alone, of many keys, as many as there is room for: behind an error all is as it was.
func TestAloneTillThereIsNoRoom(t *testing.T) {
	takesLong(t)
	for _, s := range []api.Setup{parts(1, mostSlots), parts(5, mostSlots), parts(mostParts, mostSlots), parts(1, 300), parts(2, 40, 5, 50)} {
		r, p := newReal(t, s), newPlain(s)
		m := mixer(s.Slots + s.Parts)
		full := 0
		for full < 30 {
			c := api.Call{Kind: m.one([]int{1, 2, 2, 2, 3, 4, 5}), A: m.below(1<<16) << 16, B: m.below(3), C: m.below(3)}
			if c.Kind == 5 {
				c.Pairs = pairs(c.A, c.B, c.A+1, c.C, c.A, 7)
			}
			n := target(c, s.Parts)
			was := maps.Clone(p.held[n])
			number := p.numbers[n]
			want, err := p.do(c)
			got, e := r.ofPart(nil, n, c)
			if e == noRoom && len(r.chains[n].Versions()) == 0 {
				full++ // it isn't even loaded
				p.held[n], p.numbers[n] = was, number
				continue
			}
			if e == noRoom && (err != api.OK || want.New) {
				full++
				p.held[n], p.numbers[n] = was, number
				want, err = api.Told{}, noRoom
			}
			if got != want || e != err {
				t.Fatalf("P16.10: %+v: %+v: %+v, %v, want %+v, %v", s, c, got, e, want, err)
			}
		}
		st := r.state()
		for i, list := range st.versions {
			if len(list) == 0 {
				continue
			}
			if got := st.holds(st.node(list[0]).A); !slices.Equal(got, sorted(p.held[i])) || len(list) != p.numbers[i] {
				t.Errorf("P16.10: part %d: %d versions, want %d", i, len(list), p.numbers[i])
			}
		}
	}
}

// loose does f by so many workers, without turns; all have come when they begin.
func loose(t *testing.T, promise string, workers int, f func(w *crew.Worker) []int) {
	t.Helper()
	var come atomic.Int64
	c := api.Case{Work: slices.Repeat([][]api.Call{{{}}}, workers)}
	answers, err := crew.Loose(c, does(func(w *crew.Worker, _ api.Call) api.Answer {
		come.Add(1)
		for come.Load() < int64(workers) {
			runtime.Gosched()
		}
		return api.Answer{Ints: f(w)}
	}))
	if err != api.OK || len(answers) != workers {
		t.Fatalf("Loose: %v, %v", answers, err)
	}
	for k, list := range answers {
		if len(list) != 1 || list[0].Err != api.OK || len(list[0].Ints) > 0 {
			t.Fatalf("%s: worker %d finds %+v", promise, k, list)
		}
	}
}

// did: a call that was done without turns, and what it told.
type did struct {
	api.Call
	part int
	told api.Told
}

// wantHistory: all that was told without turns is so, one version behind the other.
func (r real) wantHistory(t *testing.T, s api.Setup, all []did) {
	t.Helper()
	last := r.state()
	for n, list := range last.versions {
		byNumber := make([]*did, len(list)+1)
		for i, d := range all {
			if d.part == n && d.told.New {
				if d.told.Number < 2 || d.told.Number > len(list) || byNumber[d.told.Number] != nil {
					t.Fatalf("P16.6: %+v, twice or of no version", d)
				}
				byNumber[d.told.Number] = &all[i]
			}
		}
		held := []map[int]int{nil, sourceOf(s, n)}
		for number := 2; number <= len(list); number++ {
			d := byNumber[number]
			if d == nil {
				t.Fatalf("P16.6: nobody published the version %d of part %d", number, n)
			}
			next := maps.Clone(held[number-1])
			want, err := tellsOf(next, d.Call)
			if want.Number = number; d.told != want || err != api.OK {
				t.Fatalf("P16.6: %+v, want %+v, %v", *d, want, err)
			}
			held = append(held, next)
		}
		for _, d := range all {
			if d.part != n || d.told.New {
				continue
			}
			if d.told.Number < 1 || d.told.Number >= len(held) {
				t.Fatalf("P16.6: %+v: there is no such version", d)
			}
			want, err := tellsOf(maps.Clone(held[d.told.Number]), d.Call)
			if want.Number = d.told.Number; d.told != want || err != api.OK {
				t.Fatalf("P16.6: %+v, want %+v, %v", d, want, err)
			}
		}
		for i, h := range list {
			if got := plainly(last.holds(last.node(h).A)); !maps.Equal(got, held[len(list)-i]) || last.node(h).B != len(list)-i {
				t.Fatalf("P16.6: version %d of part %d: %v, want %v", last.node(h).B, n, got, held[len(list)-i])
			}
		}
	}
	if last.faults != 0 || len(last.free) != s.Slots-last.used() {
		t.Fatalf("P16.9: %d faults, %d slots are free, %d in use", last.faults, len(last.free), last.used())
	}
	f := filmed{mixed: mixed{s: s}, moments: []state{last}}
	f.checkSlots(t)
}

// Without turns, too, each version is one write's, and what calls tell is so.
func TestLooseCalls(t *testing.T) {
	for round := range 40 {
		n := 1 + round%3
		s := crewOf(parts(n, mostSlots, 5, 50, 6, 60, mostKey, 1), 8)
		r := newReal(t, s)
		var lock sync.Mutex
		var all []did
		loose(t, "P16.6", 8, func(w *crew.Worker) []int {
			m := mixer(100*round + w.Number())
			var mine []did
			numbers := make([]int, n)
			for range 25 {
				c := m.call(s, manners{})
				if c.Kind > 5 {
					continue
				}
				part := target(c, n)
				told, err := r.ofPart(w, part, c)
				switch err {
				case api.OK:
					if told.Number < numbers[part] || told.New && told.Number == numbers[part] {
						return []int{c.Kind, told.Number, numbers[part]}
					}
					numbers[part] = told.Number
					mine = append(mine, did{c, part, told})
				case busy, other, notThere:
				default:
					return []int{c.Kind, c.A, int(err)}
				}
			}
			lock.Lock()
			defer lock.Unlock()
			all = append(all, mine...)
			return nil
		})
		r.wantHistory(t, s, all)
	}
}

// Without turns, too, in pools that are too small: who finds no room leaves nothing.
func TestLooseCallsWithoutRoom(t *testing.T) {
	for round := range 60 {
		n := 1 + round%2
		s := crewOf(parts(n, 20+3*round, 5, 50), 8)
		r := there(t, s)
		var lock sync.Mutex
		var all []did
		var full atomic.Int64
		loose(t, "P16.9", 8, func(w *crew.Worker) []int {
			m := mixer(100*round + w.Number())
			for range 40 {
				c := m.call(s, manners{})
				if c.Kind > 5 {
					continue
				}
				part := target(c, n)
				told, err := r.ofPart(w, part, c)
				switch err {
				case api.OK:
					lock.Lock()
					all = append(all, did{c, part, told})
					lock.Unlock()
				case noRoom:
					full.Add(1)
				case other, notThere:
				default:
					return []int{c.Kind, c.A, int(err)}
				}
			}
			return nil
		})
		if full.Load() == 0 {
			t.Errorf("the pool is too great: %d slots", s.Slots)
		}
		r.wantHistory(t, s, all)
	}
}

// Without turns, too, no Swap is lost: a number that all count up together.
func TestLooseSwaps(t *testing.T) {
	const each = 40
	for range 10 {
		s := crewOf(parts(1, mostSlots, 5, 0), 8)
		r := newReal(t, s)
		loose(t, "P16.6", 8, func(w *crew.Worker) []int {
			for done := 0; done < each; {
				told, err := r.parts[0].Get(w, 5)
				if err == busy {
					continue
				}
				if err != api.OK || !told.Had {
					return []int{int(err)}
				}
				switch _, err := r.parts[0].Swap(w, 5, told.Value, told.Value+1); err {
				case api.OK:
					done++
				case other:
				default:
					return []int{int(err)}
				}
			}
			return nil
		})
		r.wantHeld(t, "P16.6", 0, 1+8*each, 5, 8*each)
	}
}

// Without turns, too, a Many is there wholly or not at all, for who reads a version as it was told.
func TestLooseManys(t *testing.T) {
	s := crewOf(parts(1, mostSlots, 1, 0, 2, 0), 8)
	r := there(t, s)
	loose(t, "P16.6", 8, func(w *crew.Worker) []int {
		for i := range 60 {
			if w.Number() < 3 {
				v := 1 + 100*w.Number() + i
				if told, err := r.parts[0].Many(w, pairs(1, v, 2, v)); err != api.OK || !told.New || told.Many != 2 {
					return []int{int(err), told.Many}
				}
				continue
			}
			// One behind the other: the second one may be newer, but if both are of one version they are one.
			a, e := r.parts[0].Get(w, 1)
			b, f := r.parts[0].Get(w, 2)
			if e != api.OK || f != api.OK || b.Number < a.Number || a.Number == b.Number && a.Value != b.Value {
				return []int{int(e), int(f), a.Number, b.Number, a.Value, b.Value}
			}
		}
		return nil
	})
	if got := len(r.chains[0].Versions()); got != 1+3*60 {
		t.Errorf("P16.6: %d versions", got)
	}
}

// Calls that can't be, beside others, in goroutines: each is told so, and nobody falls.
func TestLooseWildCalls(t *testing.T) {
	s := crewOf(parts(3, mostSlots, 5, 50), 6)
	r := there(t, s)
	loose(t, "rule 1", 8, func(w *crew.Worker) []int {
		for _, key := range noKeys {
			for i := range 3 {
				for _, c := range append(callsOf(key), many(least(i, 3), 1, key, 1), many(least((i+1)%3, 3), 1)) {
					if told, err := r.ofPart(w, i, c); err != noKey || told != (api.Told{}) {
						return []int{c.Kind, key, int(err)}
					}
				}
			}
		}
		// Workers 6 and 7 aren't the epoch's.
		told, err := r.parts[0].Get(w, 5)
		if w.Number() < 6 && (err != api.OK || told.Value != 50) || w.Number() >= 6 && (err != noWorker || told != (api.Told{})) {
			return []int{told.Value, int(err)}
		}
		return nil
	})
	if got := r.state(); !sameLists(got.versions, there(t, s).state().versions) {
		t.Errorf("P16.1: %v", got.versions)
	}
}
