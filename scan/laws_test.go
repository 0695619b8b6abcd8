package scan_test

import (
	"fmt"
	"maps"
	"slices"
	"testing"

	"skein/api"
	"skein/crew"
	"skein/scan"
)

// lawful: scans by one worker, of a map whose parts are all there; what is wrong is told.
type lawful struct {
	real
	w *crew.Worker
}

func (l lawful) all(x api.Snap) ([]api.Pair, string) { return l.from(x, 0, mostKey) }

func (l lawful) from(x api.Snap, lo, hi int) ([]api.Pair, string) {
	list, err := gathered(scan.Range(l.Store, l.w, x, lo, hi), 0)
	if err != api.OK {
		return nil, fmt.Sprintf("Range(%d, %d): %v", lo, hi, err)
	}
	return list, ""
}

// within: the pairs from lo to hi.
func within(list []api.Pair, lo, hi int) []api.Pair {
	return slices.DeleteFunc(slices.Clone(list), func(x api.Pair) bool { return x.Key < lo || x.Key > hi })
}

// keysAround: keys that are there, and beside them.
func keysAround(list []api.Pair) []int {
	seen := map[int]int{0: 1, 1 << 31: 1, mostKey: 1}
	for _, x := range list {
		for _, key := range []int{x.Key - 1, x.Key, x.Key + 1} {
			if isKey(key) {
				seen[key]++
			}
		}
	}
	return slices.Sorted(maps.Keys(seen))
}

// ranges: P19.7, of one snapshot; some tells which ends are looked at.
func (l lawful) ranges(x api.Snap, some func(keys []int) []int) string {
	all, wrong := l.all(x)
	if wrong != "" {
		return wrong
	}
	if !slices.IsSortedFunc(all, func(a, b api.Pair) int { return a.Key - b.Key }) || len(plainly(all)) != len(all) {
		return fmt.Sprintf("it doesn't rise: %v", all)
	}
	ends := some(keysAround(all))
	for i, lo := range ends {
		hi := ends[(i*7+3)%len(ends)]
		list, wrong := l.from(x, lo, hi)
		if wrong != "" || !slices.Equal(list, within(all, lo, hi)) {
			return fmt.Sprintf("Range(%d, %d): %v of %v; %s", lo, hi, list, all, wrong)
		}
		if n, err := scan.Count(l.Store, l.w, x, lo, hi); err != api.OK || n != len(list) {
			return fmt.Sprintf("Count(%d, %d): %d, %v of %v", lo, hi, n, err, all)
		}
		told, err := l.Peek(l.w, x, lo)
		if here := within(all, lo, lo); err != api.OK || told.Had != (len(here) == 1) || told.Had && told.Value != here[0].Value {
			return fmt.Sprintf("Peek(%d): %+v, %v of %v", lo, told, err, all)
		}
	}
	if again, wrong := l.all(x); wrong != "" || !slices.Equal(again, all) {
		return fmt.Sprintf("again: %v, not %v; %s", again, all, wrong)
	}
	return ""
}

// pages: P19.7: pages of so many, one behind the other's last key, are the Range's pairs.
func (l lawful) pages(x api.Snap, n int) string {
	all, wrong := l.all(x)
	if wrong != "" {
		return wrong
	}
	var list []api.Pair
	for after, more := -1, true; more; after = list[len(list)-1].Key {
		page, isMore, err := scan.Page(l.Store, l.w, x, after, n)
		list, more = append(list, page...), isMore
		if err != api.OK || len(page) > n || more != (len(list) < len(all)) || more && len(page) != n {
			return fmt.Sprintf("Page(%d, %d): %v, %v, %v of %v", after, n, page, more, err, all)
		}
		if len(list) == 0 {
			break
		}
	}
	if !slices.Equal(list, all) {
		return fmt.Sprintf("pages of %d: %v of %v", n, list, all)
	}
	return ""
}

// diffs: P19.8: what y shows is what x shows with the Diff laid on it; the other way round it is turned.
func (l lawful) diffs(x, y api.Snap) string {
	a, wrong := l.all(x)
	b, wrongToo := l.all(y)
	if wrong+wrongToo != "" {
		return wrong + wrongToo
	}
	forth, err := gathered(scan.Diff(l.Store, l.w, x, y), 0)
	back, e := gathered(scan.Diff(l.Store, l.w, y, x), 0)
	if err != api.OK || e != api.OK || !slices.Equal(back, turned(forth)) {
		return fmt.Sprintf("Diff: %v, %v; turned: %v, %v", forth, err, back, e)
	}
	held := plainly(a)
	for i, c := range forth {
		value, had := held[c.Key]
		if had != c.Had || value != c.Old || !c.Had && !c.Has || c.Had && c.Has && c.Old == c.New || !c.Has && c.New != 0 || i > 0 && forth[i-1].Key >= c.Key {
			return fmt.Sprintf("Diff: %+v of %v to %v", forth, a, b)
		}
		if delete(held, c.Key); c.Has {
			held[c.Key] = c.New
		}
	}
	if !maps.Equal(held, plainly(b)) {
		return fmt.Sprintf("Diff: %+v of %v to %v", forth, a, b)
	}
	return ""
}

// laws: all of them, of two snapshots.
func (l lawful) laws(x, y api.Snap, some func(keys []int) []int) string {
	for _, z := range []api.Snap{x, y} {
		for _, wrong := range []string{l.ranges(z, some), l.pages(z, 2)} {
			if wrong != "" {
				return fmt.Sprintf("%+v: %s", z, wrong)
			}
		}
	}
	return l.diffs(x, y)
}

func allOf(keys []int) []int { return keys }

// Alone: what is told is what a plain map, and copies of it for snapshots, would tell; and the laws hold. Meanwhile memory comes back.
func TestLawsAlone(t *testing.T) {
	takesLong(t)
	m := mixer(31)
	counts := map[string]int{}
	for round := range 120 {
		s := api.Setup{Parts: m.one([]int{1, 2, 3, 7, mostParts}), Workers: 1, Slots: mostSlots, Leases: 4, Source: m.pairs(manners{}, 12)}
		r, now := newReal(t, s), plainly(s.Source)
		l := lawful{r, nil}
		snaps, copies := map[int]api.Snap{}, map[int]map[int]int{}
		for range 12 {
			for range m.below(6) {
				c := []api.Call{put(m.key(manners{}), m.value()), put(m.below(mostKey), m.value()), drop(m.key(manners{}))}[m.below(3)]
				r.calls.Do(nil, c)
				apply(now, c)
			}
			i := m.below(4)
			if x, held := snaps[i]; held {
				r.Free(nil, x)
			}
			snaps[i], _ = r.Snap(nil)
			copies[i] = maps.Clone(now)
			for part := range s.Parts {
				r.Trim(nil, part)
			}
			r.Advance(nil)
			r.Advance(nil)
			r.Collect(nil)
			for _, j := range slices.Sorted(maps.Keys(snaps)) {
				list, wrong := l.all(snaps[j])
				if wrong != "" || !slices.Equal(list, shows(copies[j], 0, mostKey)) {
					t.Fatalf("P32.1, P32.10: round %d: %v, want %v; %s", round, list, copies[j], wrong)
				}
				changes, err := gathered(scan.Diff(r.Store, nil, snaps[j], snaps[i]), 0)
				if err != api.OK || !slices.Equal(changes, changesOf(copies[j], copies[i])) {
					t.Fatalf("P19.4, P32.10: round %d: %v, want %v", round, changes, changesOf(copies[j], copies[i]))
				}
				counts["pairs"] += len(list)
				counts["changes"] += len(changes)
				totals, err := scan.Fan(r.Store, snaps[j], 1+m.below(8))
				if err != api.OK || !slices.Equal(totals, totalsOf(plainly(list), s.Parts)) {
					t.Fatalf("P19.8: round %d: %v, %v, of %v", round, totals, err, list)
				}
			}
			j := slices.Collect(maps.Keys(snaps))[0]
			if wrong := l.laws(snaps[i], snaps[j], allOf); wrong != "" {
				t.Fatalf("P19.7, P19.8: round %d: %s", round, wrong)
			}
			for n := range 5 {
				if wrong := l.pages(snaps[i], n+1); wrong != "" {
					t.Fatalf("P19.7: round %d: %s", round, wrong)
				}
			}
		}
		if r.Pool().Faults() != 0 {
			t.Fatalf("P32.2: %d faults", r.Pool().Faults())
		}
	}
	if counts["pairs"] < 10000 || counts["changes"] < 5000 {
		t.Errorf("the maps are too plain: %v", counts)
	}
}

// kindLaws: a call that takes two snapshots, holds the laws against them, and lets them go.
const kindLaws = 300

// disturbed: a run in which one worker holds the laws against snapshots, while others write, trim and collect.
func (m *mixer) disturbed(parts int) api.Case {
	c := work([]api.Call{{Kind: kindLaws}, {Kind: kindLaws}})
	for k := range 2 + m.below(2) {
		var calls []api.Call
		for i := range 12 {
			key, value, part := m.one([]int{1, 2, 3, far, far + 1}), 100*(k+1)+i, m.below(parts)
			list := [][]api.Call{
				{put(key, value)}, {put(key, value), trim(part)}, {trim(part), advance()}, {advance(), advance(), collect()}, {drop(key), trim(part)}, {many(1, value, 2, value)}, {snap(0), put(key, value), free(0)},
			}
			calls = append(calls, list[m.below(len(list))]...)
		}
		c.Work = append(c.Work, calls)
	}
	for len(c.Turns) < 3000 {
		c.Turns = append(c.Turns, slices.Repeat([]int{m.below(6)}, 1+m.below(20))...)
	}
	return c
}

// In runs of several workers, whatever their order.
func TestLawsInRuns(t *testing.T) {
	takesLong(t)
	m := mixer(5)
	news, backs := 0, 0
	for round := range 150 {
		s := api.Setup{Parts: 1 + round%3, Workers: 4, Slots: m.one([]int{40, 60, 100}), Leases: 4, Source: pairs(1, 10, 2, 20, far, 30)}
		r := newReal(t, s)
		for i := range s.Parts {
			r.Get(nil, least(i, s.Parts))
		}
		var wrong string
		c := m.disturbed(s.Parts)
		run, err := crew.Run(c, does(func(w *crew.Worker, x api.Call) api.Answer {
			if x.Kind != kindLaws {
				return r.Do(w, x)
			}
			a, _ := r.Snap(w)
			for range 40 {
				w.Step() // others go on between
			}
			b, _ := r.Snap(w)
			// The laws of some ends: a run has no more than MaxSteps.
			if told := (lawful{r, w}).laws(a, b, func(keys []int) []int { return keys[:min(3, len(keys))] }); told != "" {
				wrong = told
			}
			return api.Answer{Ok: r.Free(w, a)+r.Free(w, b) == api.OK}
		}))
		if err != api.OK || run.Cut || wrong != "" || r.Pool().Faults() != 0 || !run.Answers[0][0].Ok || !run.Answers[0][1].Ok {
			t.Fatalf("P19.7, P19.8: round %d: %v, %v, %d steps: %s", round, err, run.Cut, run.Steps, wrong)
		}
		for k, answers := range run.Answers[1:] {
			for i, a := range answers {
				news += bit(c.Work[k+1][i].Kind <= 5 && a.Ok)
				backs += bit(c.Work[k+1][i].Kind == 14) * a.N
			}
		}
	}
	if news < 1000 || backs < 100 {
		t.Errorf("the cases are too plain: %d writes, %d slots given back", news, backs)
	}
}

func TestPromisesOfMixedPlays(t *testing.T) {
	takesLong(t)
	var all found
	for _, how := range []manners{{}, {wild: true}, {busy: true}} {
		mixedPlays(350, how, func(x mixed) {
			if canBeFilmed(x) {
				all.add(check(t, x).found)
			}
		})
	}
	if all.ranges < 300 || all.counts < 100 || all.pages < 100 || all.diffs < 100 || all.pairs < 800 || all.changes < 60 || all.partly < 30 || all.errors < 1000 || all.older < 500 ||
		all.snaps < 1000 || all.shown < 2000 || all.loads < 200 || all.open < 200 {
		t.Errorf("the cases are too plain: %+v", all)
	}
}

// busyCase: a case in which all write, trim and scan at once, and memory comes back meanwhile.
func (m *mixer) busyCase() mixed {
	x := mixed{s: api.Setup{Parts: 1 + m.below(3), Workers: 5, Slots: m.one([]int{20, 26, 40}), Leases: 2 + m.below(5), Source: pairs(1, 10, 2, 15, far, 20)}}
	for k := range 2 + m.below(3) {
		var calls []api.Call
		if k == 0 {
			calls = []api.Call{get(1), get(far), snap(3), snap(2)}
		}
		for i := range 7 {
			key, value, part := m.one([]int{1, 2, far}), 100*k+i, m.below(x.s.Parts)
			c := [][]api.Call{
				{put(key, value)}, {put(key, value), trim(part)}, {trim(part), advance()}, {advance(), advance(), collect()}, {drop(key), trim(part)}, {many(key, value, 1, 5)},
				{snap(0), ranged(0, 0, mostKey), put(key, value), ranged(0, 0, mostKey), free(0)}, {snap(0), trim(part), counted(0, 1, far), paged(0, -1, 2), free(0)},
				{snap(0), put(key, value), snap(1), differ(0, 1), free(0), free(1)}, {snap(0), ranged(0, 2, far), trim(part), peek(0, key), free(0)}, {ranged(3, 0, mostKey), differ(2, 3), free(2), snap(2)},
			}
			calls = append(calls, c[m.below(len(c))]...)
		}
		x.c.Work = append(x.c.Work, calls)
	}
	x.c.Turns = make([]int, 50)
	for len(x.c.Turns) < 1500 {
		x.c.Turns = append(x.c.Turns, slices.Repeat([]int{m.below(6)}, 1+m.below(14))...)
	}
	return x
}

func TestPromisesOfBusyCases(t *testing.T) {
	takesLong(t)
	var all found
	m := mixer(2)
	for range 150 {
		all.add(check(t, m.busyCase()).found)
	}
	if all.ranges < 300 || all.counts < 50 || all.pages < 50 || all.diffs < 100 || all.pairs < 1000 || all.changes < 30 || all.older < 500 || all.news < 500 || all.back < 100 {
		t.Errorf("the cases are too plain: %+v", all)
	}
}

// All orders, where they matter.
func TestPromisesInEveryOrder(t *testing.T) {
	takesLong(t)
	var all found
	s := api.Setup{Parts: 2, Workers: 3, Slots: 40, Leases: 4, Source: pairs(1, 10, far, 20)}
	bare := s
	bare.Source = nil
	there := []api.Call{get(1), get(far)}
	with := func(more ...api.Call) []api.Call { return append(slices.Clone(there), more...) }
	const ofPut = 1 + 2 + 2 + 1 + 1 + 3 // of a key that is there, up to Push
	for _, x := range []struct {
		s          api.Setup
		ahead      []api.Call
		did        []int
		one, other []api.Call
	}{
		// A Range beside one that loads the part, too; that writes it; that scans it.
		{bare, []api.Call{snap(0)}, nil, []api.Call{ranged(0, 0, mostKey)}, []api.Call{get(1), get(far)}},
		{bare, []api.Call{snap(0)}, nil, []api.Call{counted(0, 0, mostKey)}, []api.Call{put(1, 5), put(far, 6)}},
		{bare, []api.Call{snap(0)}, []int{0, 5}, []api.Call{differ(0, 0)}, []api.Call{snap(0), ranged(0, 0, mostKey)}},
		// A snapshot, and its Range, beside writes of both parts, from their casses on.
		{s, there, []int{0, ofPut + 3}, []api.Call{snap(0), ranged(0, 0, mostKey)}, []api.Call{put(1, 5), put(far, 6)}},
		{s, there, []int{2, ofPut + 3}, []api.Call{snap(0), counted(0, 0, mostKey), ranged(0, 0, mostKey)}, []api.Call{put(1, 5), put(far+1, 6)}},
		// A Range beside a write of its part, at its head's load and behind it.
		{s, with(snap(0)), []int{1, ofPut + 3}, []api.Call{ranged(0, 0, mostKey)}, []api.Call{put(1, 5), put(1, 6)}},
		{s, with(snap(0)), []int{6, ofPut + 3}, []api.Call{paged(0, -1, 1)}, []api.Call{put(far, 5), drop(far)}},
		// Two snapshots and their Diff beside a write.
		{s, with(snap(0)), []int{1, ofPut + 3}, []api.Call{snap(1), differ(0, 1)}, []api.Call{put(1, 5)}},
		{s, with(snap(0), put(1, 5), snap(1)), []int{3, ofPut + 3}, []api.Call{differ(0, 1)}, []api.Call{put(1, 6), trim(0)}},
		// A Trim, and all that comes back behind it, beside a Range of what is older.
		{s, with(put(1, 5), snap(0), put(1, 6), put(1, 7)), []int{0, 8}, []api.Call{ranged(0, 0, mostKey)}, []api.Call{trim(0), advance(), advance(), collect(), put(1, 8)}},
		{s, with(put(1, 5), snap(0), put(1, 6), snap(1), put(far, 8)), []int{2, 9}, []api.Call{differ(0, 1)}, []api.Call{trim(0), trim(1), advance(), advance(), collect()}},
		// One lets its snapshot go, and trims; another one's, of the same moment, stays.
		{s, with(snap(0), put(1, 5)), []int{0, 6}, []api.Call{free(0), trim(0), advance(), advance(), collect()}, []api.Call{snap(0), ranged(0, 0, mostKey)}},
	} {
		orders(2, 8, func(turns []int) {
			all.add(check(t, sideBySide(x.s, x.ahead, x.did, turns, x.one, x.other)).found)
		})
	}
	if all.ranges < 1000 || all.counts < 200 || all.pages < 200 || all.diffs < 500 || all.pairs < 2000 || all.changes < 200 || all.older < 500 || all.loads < 200 || all.errors < 50 {
		t.Errorf("the orders are too plain: %+v", all)
	}
}

// Whoever is halted, at whichever line of whichever call: scans of others tell the same, and none of them waits.
func TestPromisesBehindHalts(t *testing.T) {
	takesLong(t)
	var all found
	s := api.Setup{Parts: 2, Workers: 3, Slots: 40, Leases: 5, Source: pairs(1, 10, 2, 20, far, 30)}
	ahead := []api.Call{get(1), get(far), put(2, 21), snap(0), put(1, 11), snap(1), put(2, 22)}
	others := []api.Call{
		snap(0), ranged(0, 0, mostKey), put(1, 5), trim(0), snap(1), differ(0, 1), advance(), collect(), counted(0, 1, far), trim(1), advance(), collect(), paged(0, 0, 2), ranged(0, 0, mostKey), ranged(1, 0, mostKey),
	}
	for _, c := range []api.Call{
		put(1, 3), drop(1), many(1, 7, 3, 8, 1, 9), snap(2), free(0), trim(0), collect(), ranged(0, 0, mostKey), counted(0, 1, 5), paged(1, -1, 2), differ(0, 1),
	} {
		begin := linesOf(s, ahead...)
		for halt := begin + 1; halt <= linesOf(s, append(slices.Clone(ahead), c)...); halt++ {
			x := sideBySide(s, ahead, []int{halt - begin}, nil, []api.Call{c}, others)
			x.c.Halt = []int{halt}
			f := check(t, x)
			all.add(f.found)
			if len(f.run.Answers[1]) != len(others) || f.run.Cut {
				t.Errorf("P19.7: halted in %+v: %+v", c, f.run)
			}
			for i, a := range f.run.Answers[1] {
				if a.Err != api.OK {
					t.Errorf("P19.7: halted in %+v: %+v: %+v", c, others[i], a)
				}
			}
		}
	}
	if all.ranges < 200 || all.counts < 50 || all.pages < 50 || all.diffs < 50 || all.older < 200 || all.open < 50 {
		t.Errorf("the cases are too plain: %+v", all)
	}
}

// P32.7: at each line of a scan others write all that it looks at, trim it and give back what comes back: it tells the same.
func TestScansStay(t *testing.T) {
	takesLong(t)
	s := api.Setup{Parts: 3, Workers: 2, Slots: 100, Leases: 3, Source: pairs(1, 10, 2, 20, 1<<31, 30, far, 40)}
	ahead := []api.Call{get(1), get(1 << 31), get(far), put(1, 1), snap(0), put(1, 2), drop(far), put(1<<31+1, 7), snap(1), put(2, 3)}
	others := []api.Call{put(1, 100), drop(2), many(1<<31, 1, 1<<31+5, 2), put(far, 5), put(mostKey, 6), trim(0), trim(1), trim(2), advance(), advance(), collect(), put(1, 101), trim(0), put(3, 1), put(far, 7), advance(), advance(), collect()}
	for _, c := range []hasToSay{
		{ranged(0, 0, mostKey), gave(1, 1, 2, 20, 1<<31, 30, far, 40), 0},
		{ranged(1, 0, mostKey), gave(1, 2, 2, 20, 1<<31, 30, 1<<31+1, 7), 0},
		{ranged(1, 2, 1<<31), gave(2, 20, 1<<31, 30), 0},
		{counted(0, 2, far), number(3), 0},
		{counted(1, 0, mostKey), number(4), 0},
		{paged(0, -1, 2), more(1, 1, 2, 20), 0},
		{paged(1, 1, 5), last(2, 20, 1<<31, 30, 1<<31+1, 7), 0},
		{differ(0, 1), changed(change(1, 1, 2), change(1<<31+1, lacking, 7), change(far, 40, lacking)), 0},
		{differ(1, 0), changed(change(1, 2, 1), change(1<<31+1, 7, lacking), change(far, lacking, 40)), 0},
	} {
		lines := linesOf(s, append(slices.Clone(ahead), c.call)...) - linesOf(s, ahead...)
		backs := 0
		for line := range lines + 1 {
			r := newReal(t, s).do(t, ahead...)
			a, told := r.broken(t, c.call, line, others...)
			if !sameAnswer(a, c.want) || r.Pool().Faults() != 0 {
				t.Fatalf("P32.7: %+v, broken off behind %d lines: %+v, want %+v", c.call, line, a, c.want)
			}
			backs += told[10].N + told[17].N
			if again := r.by(t, c.call); !sameAnswer(again, c.want) {
				t.Fatalf("P32.7: %+v, again: %+v, want %+v", c.call, again, c.want)
			}
		}
		if backs < lines {
			t.Errorf("the case is too plain: %d slots were given back", backs)
		}
	}
}

// P32.1: what a Range tells is of one moment: a write that ended ahead of the Snap is told, one that began behind it isn't; and of two writes, one behind the other, never the later one without the earlier one, wherever the Snap comes.
func TestMoments(t *testing.T) {
	takesLong(t)
	s := api.Setup{Parts: 2, Workers: 2, Slots: 60, Leases: 2, Source: pairs(1, 0, far, 0)}
	there := []api.Call{get(1), get(far)}
	writes := []api.Call{put(far, 1), put(1, 1), put(far, 2), put(1, 2)}
	lines := linesOf(s, append(slices.Clone(there), writes...)...) - linesOf(s, there...)
	seen := map[string]int{}
	for line := range lines + 1 {
		for apart := range 6 {
			// The Snap's lines come behind so many lines of the writes, the others apart; the Range comes when all is written.
			x := sideBySide(s, there, []int{0, line}, nil, []api.Call{snap(0), ranged(0, 0, mostKey)}, writes)
			for range 5 {
				x.c.Turns = append(append(x.c.Turns, 0), slices.Repeat([]int{1}, apart*4)...)
			}
			x.c.Turns = append(x.c.Turns, slices.Repeat([]int{1}, lines)...)
			f := check(t, x)
			list := f.run.Answers[0][3].Pairs
			first, second := list[1].Value, list[0].Value
			if len(list) != 2 || first < second || first > second+1 {
				t.Fatalf("P32.1: the Snap behind %d lines, %d apart: %v", line, apart, list)
			}
			seen[fmt.Sprint(first, second)]++
			taken := f.run.Answers[0][2]
			ended, begun := 0, 0
			for _, a := range f.run.Answers[1] {
				ended += bit(a.End < taken.Begin)
				begun += bit(a.Begin < taken.End)
			}
			if first+second < ended || first+second > begun {
				t.Fatalf("P32.1: the Snap behind %d lines, %d apart: %v, %d writes had ended, %d begun", line, apart, list, ended, begun)
			}
		}
	}
	for _, what := range []string{"0 0", "1 0", "1 1", "2 1", "2 2"} {
		if seen[what] < 5 {
			t.Errorf("the cases are too plain: %v", seen)
		}
	}
}
