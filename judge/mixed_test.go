package judge_test

import (
	"slices"
	"testing"

	"skein/api"
	"skein/judge"
)

func wantWords(t *testing.T, start [][]api.Pair, l []api.Event) []blame {
	t.Helper()
	want := plainBlames(start, l)
	got, err := judge.Versions(start, l)
	if err != 0 || !slices.Equal(told(got), want) {
		t.Fatalf("P20.5: Versions(%v, %+v): %v, %d, want %v", start, l, got, err, want)
	}
	return want
}

// eachEvent: events of every kind, at few times, of few numbers, keys and values.
func eachEvent() []api.Event {
	var told []api.Event
	for number := range 4 {
		told = append(told,
			lacks(5, number), read(5, number, 50), read(5, number, 51), same(5, number, 50), lacks(6, number),
			write(5, number, 50, 51), lays(5, number, 50), drops(5, number, 51), write(5, number, 51, 50), lays(6, number, 1),
			batch(number), batch(number, 5, 51), snap(number), snap(number, 1),
		)
	}
	told = append(told, snap(), of(1, read(5, 1, 50)), api.Event{}, api.Event{Kind: 6, Number: 1})
	var l []api.Event
	for _, e := range told {
		for _, s := range spans(2) {
			l = append(l, during(s.Begin, s.End, e))
		}
		l = append(l, during(2, 1, e), during(0, 1, e), during(3, 9, e))
	}
	return l
}

// P20.5: every history of one event and of two.
func TestEveryHistoryOfTwoEvents(t *testing.T) {
	takesLong(t)
	events := eachEvent()
	for _, a := range events {
		wantWords(t, one(), []api.Event{a})
		for _, b := range events {
			wantWords(t, one(), []api.Event{a, b})
		}
	}
}

// event makes an event of a map of so many parts; seldom one that isn't right.
func (m *mixer) event(parts int) api.Event {
	e := api.Event{
		Worker: m.below(8), Kind: 1 + m.below(5), Part: m.below(parts), Key: 5 + m.below(2), Number: 2 + m.below(3),
		Had: m.maybe(), Has: m.maybe(), New: 50 + m.below(2), Begin: 1 + m.below(9),
	}
	if e.Had || m.below(9) == 0 {
		e.Value = 50 + m.below(2)
	}
	if m.below(8) > 0 {
		e.End = e.Begin + m.below(4)
	}
	if e.Kind == api.Read || e.Kind == api.Same {
		e.Number = 1 + m.below(4)
	}
	for range m.below(3) {
		e.Pairs = append(e.Pairs, api.Pair{Key: 5 + m.below(2), Value: 50 + m.below(2)})
	}
	if e.Kind == api.Snapshot {
		e.Part = 0
		for range parts {
			e.Numbers = append(e.Numbers, 1+m.below(3))
		}
	}
	if m.below(25) == 0 {
		m.spoilEvent(&e)
	}
	return e
}

// spoilEvent changes a field of an event.
func (m *mixer) spoilEvent(e *api.Event) {
	switch m.below(8) {
	case 0:
		e.Kind = m.below(8) - 1
	case 1:
		e.Begin = m.below(3) - 1
	case 2:
		e.End = m.below(6) - 1
	case 3:
		e.Part += m.one(-1, 1)
	case 4:
		e.Number += m.one(-1, 1, 2)
	case 5:
		e.Value++
	case 6:
		e.Had = !e.Had
	case 7:
		e.Numbers = slices.Clone(e.Numbers)
		if len(e.Numbers) > 0 {
			e.Numbers[m.below(len(e.Numbers))] += m.one(-1, 1)
		}
	}
}

// P20.5: mixed histories that mean nothing.
func TestMixedEvents(t *testing.T) {
	takesLong(t)
	const count = 6000
	var m mixer = 5
	found := map[int]int{}
	for range count {
		start := slices.Clone([][]api.Pair{pairs(5, 50), nil, pairs(6, 50, 5, 51, 6, 51)}[:1+m.below(3)])
		var l []api.Event
		for range m.below(14) {
			l = append(l, m.event(len(start)))
		}
		for _, b := range wantWords(t, start, l) {
			found[b[2]]++
		}
	}
	for why := 1; why <= 7; why++ {
		if found[why] < count/20 {
			t.Errorf("too few blames of Why %d: %d", why, found[why])
		}
	}
}

// sound makes a history of a map as it can be: each event has a moment between its Begin and its End, at which it does what it tells.
func (m *mixer) sound() ([][]api.Pair, []api.Event) {
	parts := 1 + m.below(3)
	start := make([][]api.Pair, parts)
	held := make([]map[int]int, parts)
	numbers := slices.Repeat([]int{1}, parts)
	for part := range start {
		for range m.below(4) {
			start[part] = append(start[part], api.Pair{Key: m.below(3), Value: m.below(3)})
		}
		held[part] = laid(nil, start[part])
	}
	var l []api.Event
	for k := range m.below(40) {
		part, moment := m.below(parts), 4*k+10
		e := api.Event{Kind: 1 + m.below(5), Part: part, Key: m.below(3), Begin: moment - m.below(10), End: moment + m.below(10)}
		e.Value, e.Had = held[part][e.Key]
		switch e.Kind {
		case api.Write:
			e.Has, e.New = m.maybe(), m.below(3)
			delete(held[part], e.Key)
			if e.Has {
				held[part][e.Key] = e.New
			}
		case api.Batch:
			e.Pairs = pairs(m.below(3), m.below(3), m.below(3), m.below(3))
			e.Value, e.Had = 0, false
			held[part] = laid(held[part], e.Pairs)
		case api.Snapshot:
			e = during(e.Begin, e.End, snap(slices.Clone(numbers)...))
		}
		if publishes(e) {
			numbers[part]++
		}
		if e.Kind != api.Snapshot {
			e.Number = numbers[part]
		}
		if m.below(12) == 0 {
			e.End = 0
		}
		l = append(l, e)
	}
	shuffle(m, l)
	return start, l
}

// P20.5: histories that can be aren't blamed, and those in which one field is changed as the words say.
func TestSoundHistories(t *testing.T) {
	takesLong(t)
	const count = 4000
	var m mixer = 7
	found := map[int]int{}
	for range count {
		start, l := m.sound()
		if blames := wantWords(t, start, l); len(blames) > 0 {
			t.Fatalf("P20.5: what can be is blamed: %v, %+v: %v", start, l, blames)
		}
		wantInRow(t, l)
		if len(l) == 0 {
			continue
		}
		for range 1 + m.below(2) {
			m.spoilEvent(&l[m.below(len(l))])
		}
		for _, b := range wantWords(t, start, l) {
			found[b[2]]++
		}
	}
	for why := 1; why <= 7; why++ {
		if found[why] == 0 {
			t.Errorf("no blames of Why %d", why)
		}
	}
}

// wantInRow wants that the calls of each part stand in one order, by Number, each Read behind its Write, and none ahead against it.
func wantInRow(t *testing.T, l []api.Event) {
	t.Helper()
	var row []api.Event
	for _, e := range l {
		if e.End != 0 && e.Kind != api.Snapshot {
			row = append(row, e)
		}
	}
	standing := func(e api.Event) []int { return []int{e.Part, e.Number, bit(!publishes(e)), e.Begin} }
	slices.SortFunc(row, func(a, b api.Event) int { return slices.Compare(standing(a), standing(b)) })
	for i, x := range row {
		for _, y := range row[:i] {
			if x.Part == y.Part && x.End < y.Begin {
				t.Fatalf("P20.7: %+v was ahead of %+v, and stands behind it", x, y)
			}
		}
	}
}

// P20.7: whatever isn't blamed stands in a row.
func TestUnblamedStandInARow(t *testing.T) {
	takesLong(t)
	const count = 40000
	var m mixer = 11
	unblamed := 0
	for range count {
		start := slices.Clone([][]api.Pair{pairs(5, 50), nil}[:1+m.below(2)])
		var l []api.Event
		for range 2 + m.below(3) {
			l = append(l, m.event(len(start)))
		}
		if blames, _ := judge.Versions(start, l); len(blames) == 0 {
			unblamed++
			wantInRow(t, l)
		}
	}
	if unblamed < count/100 {
		t.Errorf("too few histories without blames: %d", unblamed)
	}
}

// P20.8: a history without its last events, none of them a Write or a Batch, has no more blames: just those that are of what is left.
func TestFewerEvents(t *testing.T) {
	takesLong(t)
	const count = 3000
	var m mixer = 208
	shorter := 0
	for range count {
		start, l := m.sound()
		for range m.below(4) {
			if len(l) > 0 {
				m.spoilEvent(&l[m.below(len(l))])
			}
		}
		if m.maybe() {
			// What publishes nothing comes last.
			slices.SortStableFunc(l, func(a, b api.Event) int { return bit(publishes(b)) - bit(publishes(a)) })
		}
		all, _ := judge.Versions(start, l)
		for n := len(l) - 1; n >= 0 && !publishes(l[n]); n-- {
			fewer, err := judge.Versions(start, l[:n])
			var want []api.Blame
			for _, b := range all {
				if b.At < n && b.With < n {
					want = append(want, b)
				}
			}
			if err != 0 || len(fewer) > len(all) || !slices.Equal(fewer, want) {
				t.Fatalf("P20.8: Versions(%v, %+v): %v, but of %d events: %v", start, l, all, n, fewer)
			}
			shorter++
		}
	}
	if shorter < count {
		t.Errorf("too few were made shorter: %d", shorter)
	}
}
