package judge_test

import (
	"slices"
	"testing"

	"skein/api"
	"skein/judge"
	"skein/part"
	mapped "skein/store"
)

// play: a Play of a map, or of its parts.
type play func(s api.Setup, c api.Case) (api.Run, [][]int, api.Errno)

// partOf: the part of a key, as DOC.md says it.
func partOf(key, parts int) int { return key * parts >> 32 }

// startOf: the pairs of each part's version 1.
func startOf(s api.Setup) [][]api.Pair {
	start := make([][]api.Pair, s.Parts)
	for _, p := range s.Source {
		part := partOf(p.Key, s.Parts)
		start[part] = append(start[part], p)
	}
	return start
}

// targetOf: the part that a write goes to.
func targetOf(c api.Call, parts int) int {
	if c.Kind != 5 {
		return partOf(c.A, parts)
	}
	if len(c.Pairs) == 0 {
		return 0
	}
	return partOf(c.Pairs[0].Key, parts)
}

// eventOf lays a call of a map down that answered no error; false: it is none that is laid down.
func eventOf(c api.Call, a api.Answer, worker, parts int) (api.Event, bool) {
	e := api.Event{Worker: worker, Begin: a.Begin, End: a.End, Key: c.A, Number: a.M, Value: a.N}
	switch c.Kind {
	case 1:
		e.Kind, e.Had = api.Read, a.Ok
	case 2, 3, 4:
		e.Kind, e.Had = api.Same, a.Ints[0] == 1
		if a.Ok {
			e.Kind, e.Has = api.Write, c.Kind != 3
		}
		if e.Has {
			e.New = []int{2: c.B, 4: c.C}[c.Kind]
		}
	case 5:
		e = api.Event{Kind: api.Batch, Worker: worker, Begin: a.Begin, End: a.End, Number: a.M, Pairs: c.Pairs}
		if !a.Ok {
			return e, false
		}
	default:
		return e, false
	}
	e.Part = targetOf(c, parts)
	return e, true
}

// shownBy: of the Snap that a worker's call i took, the numbers of the versions that its Peeks told before it was let go; 0 of a part of which none did.
func shownBy(t *testing.T, calls []api.Call, answers []api.Answer, i, parts int) []int {
	t.Helper()
	numbers := make([]int, parts)
	for k := i + 1; k < len(answers); k++ {
		c, a := calls[k], answers[k]
		if a.Err == 0 && (c.Kind == 7 && c.A == calls[i].A || c.Kind == 9 && c.B == calls[i].A) {
			break
		}
		if c.Kind != 8 || c.A != calls[i].A || a.Err != 0 {
			continue
		}
		n := &numbers[partOf(c.B, parts)]
		if *n != 0 && *n != a.M {
			t.Fatalf("P32.7: a snapshot shows version %d, and then %d", *n, a.M)
		}
		*n = a.M
	}
	return numbers
}

// eventsOf lays a run of a map down: its calls that answered no error, and its open writes; Snaps if Peeks told what they show.
func eventsOf(t *testing.T, s api.Setup, c api.Case, run api.Run) []api.Event {
	t.Helper()
	var l []api.Event
	for k, answers := range run.Answers {
		for i, a := range answers {
			if a.Err != 0 {
				continue
			}
			if c.Work[k][i].Kind == 6 && a.Ok && a.M > 0 {
				shown := shownBy(t, c.Work[k], answers, i, s.Parts)
				if !slices.Contains(shown, 0) {
					e := during(a.Begin, a.End, snap(shown...))
					e.Worker = k
					l = append(l, e)
				}
			} else if e, ok := eventOf(c.Work[k][i], a, k, s.Parts); ok {
				l = append(l, e)
			}
		}
	}
	for _, o := range run.Open {
		x := c.Work[o.Worker][len(run.Answers[o.Worker])]
		if x.Kind >= 2 && x.Kind <= 5 {
			l = append(l, api.Event{Worker: o.Worker, Begin: o.Begin, Kind: api.Write, Part: targetOf(x, s.Parts)})
		}
	}
	return l
}

// wantUnblamed plays a case, and wants its history without blames, and all of it in a row.
func wantUnblamed(t *testing.T, p play, s api.Setup, c api.Case) []api.Event {
	t.Helper()
	run, _, err := p(s, c)
	if err != 0 {
		t.Fatalf("Play: %d", err)
	}
	l := eventsOf(t, s, c, run)
	blames, err := judge.Versions(startOf(s), l)
	if err != 0 || len(blames) > 0 {
		t.Fatalf("P20.7: a run of %+v, %+v: Versions of %+v: %v, %d", s, c, l, blames, err)
	}
	wantInRow(t, l)
	return l
}

// wantChangedBlamed changes each Read of an unblamed history in turn: what it tells of its version, or which one it tells.
func wantChangedBlamed(t *testing.T, start [][]api.Pair, l []api.Event) int {
	t.Helper()
	last := newWords(start, l).versions
	changed := 0
	for i, e := range l {
		if e.Kind != api.Read && e.Kind != api.Same || e.End == 0 || e.Number > len(last[e.Part]) {
			continue
		}
		changed++
		for _, change := range []func(e *api.Event){
			func(e *api.Event) { e.Value++ },
			func(e *api.Event) { e.Had = !e.Had },
			func(e *api.Event) { e.Key, e.Value = e.Key+1, 1<<40 },
		} {
			other := slices.Clone(l)
			change(&other[i])
			wantBlames(t, "P20.7: a read is changed", start, other, blame{i, -1, 4})
		}
		other := slices.Clone(l)
		other[i].Number = len(last[e.Part]) + 1
		blames := wantWords(t, start, other)
		if len(blames) == 0 && !newWords(start, l).isOpen(e.Part) {
			t.Errorf("P20.7: a read of a version that nobody published isn't blamed: %+v", other)
		}
	}
	return changed
}

const half = 1 << 31 // the first key of the second one of two parts

func makes(kind, a, b, c int) []api.Call { return []api.Call{call(kind, a, b, c)} }

func many(keysAndValues ...int) api.Call { return api.Call{Kind: 5, Pairs: pairs(keysAndValues...)} }

// P20.7: small cases over parts: the turns around the lines that matter in every order, halted and cut at every step.
func TestEveryRunOfParts(t *testing.T) {
	takesLong(t)
	s := api.Setup{Parts: 1, Workers: 3, Slots: 60, Leases: 1, Source: pairs(5, 50)}
	before := slices.Repeat([]int{0}, 20) // so many that the part is there
	changed := 0
	for _, work := range [][][]api.Call{
		{{call(1, 5, 0, 0), call(2, 5, 51, 0)}, {call(2, 5, 52, 0), call(1, 5, 0, 0)}},
		{{call(1, 5, 0, 0), call(3, 5, 0, 0), call(1, 5, 0, 0)}, {call(1, 5, 0, 0), call(4, 5, 50, 53)}},
		{{call(1, 5, 0, 0), many(5, 1, 6, 2)}, {call(2, 5, 50, 0), call(1, 6, 0, 0), call(3, 7, 0, 0)}},
	} {
		turnsOf(2, 6, func(turns []int) {
			for ahead := 9; ahead <= 33; ahead += 4 {
				c := api.Case{Work: work, Turns: slices.Concat(before, slices.Repeat([]int{1}, ahead), turns)}
				l := wantUnblamed(t, part.Play, s, c)
				if turns[0]+turns[1] == 0 {
					changed += wantChangedBlamed(t, startOf(s), l)
				}
			}
		})
		for steps := 1; steps <= 120; steps++ {
			c := api.Case{Work: work, Until: steps}
			wantUnblamed(t, part.Play, s, c)
			for other := 1; other <= 120; other += 7 {
				c.Until, c.Halt = 0, []int{steps, other}
				wantUnblamed(t, part.Play, s, c)
			}
		}
	}
	if changed < 100 {
		t.Errorf("too few reads were changed: %d", changed)
	}
}

// setup makes a setup of few parts; its loading may fail at first.
func (m *mixer) setup() api.Setup {
	s := api.Setup{Parts: 1 + m.below(3), Workers: 8, Slots: m.one(80, 300, 3000), Leases: m.one(2, 8), Fails: m.one(0, 0, 1)}
	for range m.below(8) {
		s.Source = append(s.Source, api.Pair{Key: m.key(), Value: m.below(4)})
	}
	return s
}

// key: few keys, over all of their range.
func (m *mixer) key() int { return m.below(3) + m.one(0, 0, half, half, 3000000000) }

// ofKey makes a call of layer 16's and 18's, 1 to 5; seldom one that is refused.
func (m *mixer) ofKey() api.Call {
	c := call(1+m.below(5), m.key(), m.below(4), m.below(4))
	if c.Kind == 5 {
		key := m.key() &^ 3
		c = many(key+m.below(3), m.below(4), key+m.below(3), m.below(4), key+m.below(3), m.below(4))
		c.Pairs = c.Pairs[:m.below(4)]
	}
	if m.below(20) == 0 {
		c.A = -1
		for i := range c.Pairs {
			c.Pairs[i].Key = m.key()
		}
	}
	return c
}

// mixedCase gives workers calls that next makes, turns that go on with one worker for a while, and perhaps halts and a cut.
func (m *mixer) mixedCase(most int, next func() []api.Call) api.Case {
	c := api.Case{Work: make([][]api.Call, 1+m.below(8))}
	for k := range c.Work {
		for n := m.below(most); len(c.Work[k]) < n; {
			c.Work[k] = append(c.Work[k], next()...)
		}
		c.Work[k] = c.Work[k][:min(len(c.Work[k]), 64)]
	}
	for range m.below(300) {
		c.Turns = append(c.Turns, slices.Repeat([]int{m.below(8)}, m.one(1, 1, 2, 5, 20))...)
	}
	if m.below(3) == 0 {
		for range c.Work {
			c.Halt = append(c.Halt, m.below(150))
		}
	}
	switch m.below(3) {
	case 0:
		c.Until = m.below(400)
	case 1:
		c.Until = 4000 // a write may wait for a loading that is halted
	}
	return c
}

// P20.7: mixed cases over parts.
func TestMixedRunsOfParts(t *testing.T) {
	takesLong(t)
	const count = 600
	var m mixer = 16
	found, changed := map[int]int{}, 0
	for i := range count {
		s := m.setup()
		c := m.mixedCase(24, func() []api.Call {
			if m.below(12) == 0 {
				return makes(6+m.below(2), 0, 0, 0)
			}
			return []api.Call{m.ofKey()}
		})
		l := wantUnblamed(t, part.Play, s, c)
		for _, e := range l {
			found[e.Kind]++
			if e.End == 0 {
				found[-1]++
			}
		}
		if len(l) < 40 || i%8 == 0 {
			changed += wantChangedBlamed(t, startOf(s), l)
		}
	}
	if len(found) != 5 || changed < count {
		t.Errorf("too few events of some kind, or changed reads: %v, %d", found, changed)
	}
}

// ofMap makes calls of the map's: also Snaps, with Peeks at each part behind them, others' between.
func (m *mixer) ofMap(s api.Setup) []api.Call {
	switch m.below(10) {
	case 0, 1, 2:
		register := m.below(4)
		l := makes(6, register, 0, 0)
		for part := range s.Parts {
			first := (part<<32 + s.Parts - 1) / s.Parts
			l = append(l, call(8, register, first+m.below(3), 0))
			if m.maybe() {
				l = append(l, m.ofKey())
			}
		}
		if m.below(4) > 0 {
			l = append(l, call(m.one(7, 7, 7, 9), register, register, 0))
		}
		return l
	case 3:
		return makes(12, m.below(s.Parts), 0, 0)
	case 4:
		return slices.Concat(makes(13, 0, 0, 0), makes(14, 0, 0, 0))
	case 5:
		return makes(m.one(10, 11, 15), m.below(4), m.key(), 0)
	}
	return []api.Call{m.ofKey()}
}

// P20.7: mixed cases over maps, with snapshots.
func TestMixedRunsOfMaps(t *testing.T) {
	takesLong(t)
	const count = 800
	var m mixer = 18
	found, changed := map[int]int{}, 0
	for i := range count {
		s := m.setup()
		c := m.mixedCase(30, func() []api.Call { return m.ofMap(s) })
		l := wantUnblamed(t, mapped.Play, s, c)
		for _, e := range l {
			found[e.Kind]++
			if e.End == 0 {
				found[-1]++
			}
		}
		if len(l) < 40 || i%8 == 0 {
			changed += wantChangedBlamed(t, startOf(s), l)
		}
		wantChangedSnaps(t, &m, startOf(s), l)
	}
	if len(found) != 6 || found[api.Snapshot] < count || changed < count {
		t.Errorf("too few events of some kind, or changed reads: %v, %d", found, changed)
	}
}

// wantChangedSnaps changes what a Snap shows: as the words say.
func wantChangedSnaps(t *testing.T, m *mixer, start [][]api.Pair, l []api.Event) {
	t.Helper()
	for i, e := range l {
		if e.Kind == api.Snapshot && m.below(8) == 0 {
			other := slices.Clone(l)
			other[i].Numbers = slices.Clone(e.Numbers)
			other[i].Numbers[m.below(len(start))] += m.one(1, 2, 9)
			wantWords(t, start, other)
		}
	}
}

// P20.7: the greatest runs: eight workers, 64 calls each.
func TestGreatestRunsOfMaps(t *testing.T) {
	takesLong(t)
	var m mixer = 64
	for range 10 {
		s := api.Setup{Parts: 2, Workers: 8, Slots: 4096, Leases: 64, Source: pairs(0, 1, half, 2)}
		c := api.Case{Work: make([][]api.Call, 8)}
		for k := range c.Work {
			for len(c.Work[k]) < 64 {
				c.Work[k] = append(c.Work[k], m.ofMap(s)...)
				c.Work[k] = append(c.Work[k], m.ofKey(), m.ofKey(), m.ofKey())
			}
			c.Work[k] = c.Work[k][:64]
		}
		for range 600 {
			c.Turns = append(c.Turns, slices.Repeat([]int{m.below(8)}, 1+m.below(40))...)
		}
		l := wantUnblamed(t, mapped.Play, s, c)
		if len(l) < 200 {
			t.Errorf("too few events: %d", len(l))
		}
	}
}
