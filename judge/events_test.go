package judge_test

import (
	"maps"
	"slices"
	"testing"

	"skein/api"
	"skein/judge"
)

// Events, by their names, with what they told.
func read(key, number, value int) api.Event {
	return api.Event{Kind: api.Read, Key: key, Number: number, Had: true, Value: value}
}

// lacks: a Read of a key that isn't there.
func lacks(key, number int) api.Event { return api.Event{Kind: api.Read, Key: key, Number: number} }

func write(key, number, old, value int) api.Event {
	return api.Event{Kind: api.Write, Key: key, Number: number, Had: true, Value: old, Has: true, New: value}
}

// lays: a Write of a key that wasn't there.
func lays(key, number, value int) api.Event {
	return api.Event{Kind: api.Write, Key: key, Number: number, Has: true, New: value}
}

// drops: a Write that takes a key away.
func drops(key, number, old int) api.Event {
	return api.Event{Kind: api.Write, Key: key, Number: number, Had: true, Value: old}
}

func same(key, number, value int) api.Event {
	return api.Event{Kind: api.Same, Key: key, Number: number, Had: true, Value: value}
}

func snap(numbers ...int) api.Event { return api.Event{Kind: api.Snapshot, Numbers: numbers} }

func batch(number int, keysAndValues ...int) api.Event {
	return api.Event{Kind: api.Batch, Number: number, Pairs: pairs(keysAndValues...)}
}

func pairs(keysAndValues ...int) []api.Pair {
	var l []api.Pair
	for i := 0; i < len(keysAndValues); i += 2 {
		l = append(l, api.Pair{Key: keysAndValues[i], Value: keysAndValues[i+1]})
	}
	return l
}

// publishes: an event is of a kind that publishes a version.
func publishes(e api.Event) bool { return e.Kind == api.Write || e.Kind == api.Batch }

func bit(b bool) int {
	if b {
		return 1
	}
	return 0
}

// during gives an event its times.
func during(begin, end int, e api.Event) api.Event {
	e.Begin, e.End = begin, end
	return e
}

// of gives an event its part.
func of(part int, e api.Event) api.Event {
	e.Part = part
	return e
}

// meanwhile: events that all have the same times.
func meanwhile(events ...api.Event) []api.Event {
	var l []api.Event
	for _, e := range events {
		l = append(l, during(1, 9, e))
	}
	return l
}

// behind: events of which each one was ahead of the next one.
func behind(events ...api.Event) []api.Event {
	var l []api.Event
	for i, e := range events {
		l = append(l, during(2*i+1, 2*i+2, e))
	}
	return l
}

// blame: what is wanted of Versions: At, With and Why.
type blame = [3]int

func told(l []api.Blame) []blame {
	var list []blame
	for _, b := range l {
		list = append(list, blame{b.At, b.With, b.Why})
	}
	return list
}

func wantBlames(t *testing.T, promise string, start [][]api.Pair, l []api.Event, want ...blame) {
	t.Helper()
	got, err := judge.Versions(start, l)
	if err != 0 || !slices.Equal(told(got), want) {
		t.Errorf("%s: Versions(%v, %+v): %v, %d, want %v", promise, start, l, got, err, want)
	}
	if plain := plainBlames(start, l); !slices.Equal(told(got), plain) {
		t.Errorf("%s: Versions(%v, %+v): %v, by the words it is %v", promise, start, l, got, plain)
	}
}

// isRight: the words of P20.3.
func isRight(e api.Event, parts int) bool {
	if !slices.Contains([]int{api.Read, api.Write, api.Same, api.Snapshot, api.Batch}, e.Kind) {
		return false
	}
	ofPart := e.Part >= 0 && e.Part < parts
	if e.Kind == api.Snapshot {
		ofPart = e.Part == 0
	}
	if !ofPart || e.Begin < 1 || e.End != 0 && e.End < e.Begin {
		return false
	}
	switch {
	case e.End == 0:
		return true
	case e.Kind == api.Snapshot:
		return len(e.Numbers) == parts && !slices.ContainsFunc(e.Numbers, func(n int) bool { return n < 1 })
	case publishes(e):
		return e.Number > 1
	}
	return e.Number > 0
}

// words: a history, by the words of P20.3 to P20.5.
type words struct {
	l        []api.Event
	right    []bool
	versions [][]map[int]int // by part: what its versions hold that are told
}

func newWords(start [][]api.Pair, l []api.Event) *words {
	w := &words{l: l}
	for _, e := range l {
		w.right = append(w.right, isRight(e, len(start)))
	}
	for part, list := range start {
		versions := []map[int]int{laid(nil, list)}
		for {
			by := w.publishers(part, len(versions)+1)
			if len(by) != 1 {
				break
			}
			versions = append(versions, w.made(versions[len(versions)-1], l[by[0]]))
		}
		w.versions = append(w.versions, versions)
	}
	return w
}

// laid: what was held, and pairs laid upon it.
func laid(held map[int]int, list []api.Pair) map[int]int {
	held = maps.Clone(held)
	if held == nil {
		held = map[int]int{}
	}
	for _, p := range list {
		held[p.Key] = p.Value
	}
	return held
}

// made: what a version holds that e published.
func (w *words) made(ahead map[int]int, e api.Event) map[int]int {
	if e.Kind == api.Batch {
		return laid(ahead, e.Pairs)
	}
	held := laid(ahead, nil)
	delete(held, e.Key)
	if e.Has {
		held[e.Key] = e.New
	}
	return held
}

func (w *words) ended(i int) bool { return w.right[i] && w.l[i].End != 0 }

func (w *words) publishes(i int) bool { return w.right[i] && publishes(w.l[i]) }

func (w *words) isSnap(i int) bool { return w.right[i] && w.l[i].Kind == api.Snapshot }

// publishers: who published that version.
func (w *words) publishers(part, number int) []int {
	var by []int
	for i, e := range w.l {
		if w.ended(i) && w.publishes(i) && e.Part == part && e.Number == number {
			by = append(by, i)
		}
	}
	return by
}

// ahead: x was ahead of y.
func (w *words) ahead(x, y int) bool {
	return w.ended(x) && w.l[x].End < w.l[y].Begin
}

// isOpen: a Write or a Batch of that part is open.
func (w *words) isOpen(part int) bool {
	for i, e := range w.l {
		if w.publishes(i) && e.End == 0 && e.Part == part {
			return true
		}
	}
	return false
}

// alone: whether an event is blamed without another one.
func (w *words) alone(at, why int) bool {
	e := w.l[at]
	if why == 1 || !w.ended(at) || w.isSnap(at) {
		return why == 1 && !w.right[at]
	}
	versions := w.versions[e.Part]
	if why == 3 {
		return e.Number > len(versions) && !w.isOpen(e.Part)
	}
	number := e.Number
	if e.Kind == api.Write {
		number--
	}
	if why != 4 || e.Kind == api.Batch || number > len(versions) {
		return false
	}
	value, had := versions[number-1][e.Key]
	return had != e.Had || value != e.Value
}

// both: whether an event is blamed with another one.
func (w *words) both(at, with, why int) bool {
	if !w.ended(at) || !w.ended(with) {
		return false
	}
	x, y := w.l[at], w.l[with]
	switch why {
	case 2:
		return at > with && w.publishes(at) && w.publishes(with) && x.Part == y.Part && x.Number == y.Number
	case 5:
		if !w.ahead(with, at) || w.isSnap(at) || w.isSnap(with) || x.Part != y.Part {
			return false
		}
		return x.Number < y.Number || x.Number == y.Number && w.publishes(at)
	case 6:
		if !w.ahead(with, at) {
			return false
		}
		return w.isSnap(with) && w.publishes(at) && x.Number <= y.Numbers[x.Part] ||
			w.isSnap(at) && !w.isSnap(with) && x.Numbers[y.Part] < y.Number
	case 7:
		if at < with || !w.isSnap(at) || !w.isSnap(with) {
			return false
		}
		below, above := false, false
		for part := range x.Numbers {
			below = below || x.Numbers[part] < y.Numbers[part]
			above = above || x.Numbers[part] > y.Numbers[part]
		}
		return below && above || w.ahead(at, with) && above || w.ahead(with, at) && below
	}
	return false
}

// plainBlames: all that is blamed, by the words of P20.5.
func plainBlames(start [][]api.Pair, l []api.Event) []blame {
	w := newWords(start, l)
	var list []blame
	for at := range l {
		for why := 1; why <= 7; why++ {
			if w.alone(at, why) {
				list = append(list, blame{at, -1, why})
			}
		}
		for with := range l {
			for why := 1; why <= 7; why++ {
				if w.both(at, with, why) {
					list = append(list, blame{at, with, why})
				}
			}
		}
	}
	return list
}
