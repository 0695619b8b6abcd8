package pile_test

import (
	"math"
	"slices"
	"testing"

	"skein/api"
	"skein/crew"
	"skein/pile"
)

// The calls of Play, by their names.
func pop() api.Call       { return api.Call{Kind: 1} }
func push(i int) api.Call { return api.Call{Kind: 2, A: i} }
func back() api.Call      { return api.Call{Kind: 3} }
func look() api.Call      { return api.Call{Kind: 4} }

// top: what a head word tells.
type top struct{ place, tag int }

func (h top) word() int { return h.place<<40 + h.tag }

// then: the head that comes behind this one.
func (h top) then(place int) top { return top{place, (h.tag + 1) % (1 << 40)} }

// model: a pile as the chapter's lines say it.
type model struct {
	head top
	next []int // by place; that of 0 is idle
	out  [8]int
}

func newModel(n, tag int) *model {
	m := &model{head: top{1, tag}, next: make([]int, n+1)}
	for i := 1; i < n; i++ {
		m.next[i] = i + 1
	}
	return m
}

func refused(err api.Errno) line {
	return func() (api.Answer, bool) { return api.Answer{Err: err}, true }
}

func (m *model) begin(worker int, c api.Call) line {
	out := &m.out[worker]
	switch c.Kind {
	case 1:
		return m.pop(out)
	case 2:
		return m.push(c.A, nil)
	case 3:
		return m.push(*out, out)
	case 4:
		return m.look()
	}
	return refused(80)
}

func (m *model) pop(out *int) line {
	at, h, below := 1, top{}, 0
	return func() (api.Answer, bool) {
		switch at {
		case 1:
			h, at = m.head, 2
			if h.place == 0 {
				return api.Answer{Err: 83}, true
			}
		case 2:
			below, at = m.next[h.place], 3
		case 3:
			at = 1
			if m.head == h {
				m.head, *out = h.then(below), h.place
				return api.Answer{N: h.place}, true
			}
		}
		return api.Answer{}, false
	}
}

// push: out is told that its place isn't out any more, if it is there.
func (m *model) push(i int, out *int) line {
	if i < 1 || i >= len(m.next) {
		return refused(82)
	}
	at, h := 1, top{}
	return func() (api.Answer, bool) {
		switch at {
		case 1:
			h, at = m.head, 2
		case 2:
			m.next[i], at = h.place, 3
		case 3:
			at = 1
			if m.head == h {
				m.head = h.then(i)
				if out != nil {
					*out = 0
				}
				return api.Answer{}, true
			}
		}
		return api.Answer{}, false
	}
}

func (m *model) look() line {
	began, h, i, list := false, top{}, 0, []int(nil)
	return func() (api.Answer, bool) {
		switch {
		case !began:
			began, h, i, list = true, m.head, m.head.place, nil
		case i != 0 && !slices.Contains(list, i):
			list = append(list, i)
			i = m.next[i]
		case m.head == h:
			return api.Answer{Ints: list}, true
		default:
			began = false
		}
		return api.Answer{}, false
	}
}

func (m *model) places() []int {
	var list []int
	for i := m.head.place; i != 0 && !slices.Contains(list, i); i = m.next[i] {
		list = append(list, i)
	}
	return list
}

func (m *model) play(c api.Case) (api.Run, []int, int) {
	run := modelRun(c, m.begin)
	return run, m.places(), m.head.word()
}

// alone does a call with all its lines at once.
func (m *model) alone(c api.Call) api.Answer {
	l := m.begin(0, c)
	for {
		if a, ended := l(); ended {
			return a
		}
	}
}

func newPile(t *testing.T, n, tag int) *pile.Pile {
	t.Helper()
	p, err := pile.New(n, tag)
	if err != api.OK || p == nil {
		t.Fatalf("P8.1: New(%d, %d): %v, %v", n, tag, p, err)
	}
	return p
}

// byName does calls by their names; there is none for a call 3.
func byName(p *pile.Pile) does {
	return func(w *crew.Worker, c api.Call) api.Answer {
		var a api.Answer
		switch c.Kind {
		case 1:
			a.N, a.Err = p.Pop(w)
		case 2:
			a.Err = p.Push(w, c.A)
		case 4:
			a.Ints = p.Look(w)
		default:
			a.Err = api.ErrPileCall
		}
		return a
	}
}

// wantPile holds what a pile tells of itself against its places and its head.
func wantPile(t *testing.T, promise string, p *pile.Pile, places []int, head top) {
	t.Helper()
	if got := p.Places(); !slices.Equal(got, places) {
		t.Fatalf("%s: Places %v, want %v", promise, got, places)
	}
	if got := p.Look(nil); !slices.Equal(got, places) {
		t.Fatalf("%s: Look %v, want %v", promise, got, places)
	}
	if got := p.Head(); got != head.word() {
		t.Fatalf("%s: Head %d, want %d (%v)", promise, got, head.word(), head)
	}
}

func sameAnswer(a, b api.Answer) bool {
	return a.Ok == b.Ok && a.N == b.N && a.M == b.M && a.Err == b.Err && slices.Equal(a.Ints, b.Ints) && len(a.Pairs) == 0 && len(b.Pairs) == 0
}

func wantPlay(t *testing.T, promise string, n, tag int, c api.Case, want api.Run, places []int, head int) {
	t.Helper()
	run, got, h, err := pile.Play(n, tag, c)
	if err != api.OK || !sameRun(run, want) || !slices.Equal(got, places) || h != head {
		t.Fatalf("%s: Play(%d, %d, %+v)\ngot  %+v %v %d %v\nwant %+v %v %d", promise, n, tag, c, run, got, h, err, want, places, head)
	}
}

// wantModel holds a Play against the model.
func wantModel(t *testing.T, promise string, n, tag int, c api.Case) (api.Run, []int, int) {
	t.Helper()
	run, places, head := newModel(n, tag).play(c)
	wantPlay(t, promise, n, tag, c, run, places, head)
	return run, places, head
}

func work(calls ...[]api.Call) api.Case { return api.Case{Work: calls} }

// upTo: 1 to n.
func upTo(n int) []int {
	list := make([]int, n)
	for i := range list {
		list[i] = i + 1
	}
	return list
}

const (
	lowest  = math.MinInt
	highest = math.MaxInt
	maxTag  = 1<<40 - 1
)

var (
	farNumbers = []int{lowest, lowest + 1, -1 << 32, -65, -2, -1, 0, 1, 2, 63, 64, 65, 1 << 32, highest - 1, highest}
	fewHalts   = []int{lowest, -1, 0, 0, 0, 1, 2, 3, 4, 5, 8, highest}
	fewUntils  = []int{0, 0, 0, 0, 1, 2, 3, 7, 15, 19999, 20000}
)

// mixed: a Play's arguments.
type mixed struct {
	n, tag int
	c      api.Case
}

// call: over so many places; also one that spoils the pile, or can't be, if wild.
func (m *mixer) call(n int, wild bool) api.Call {
	c := api.Call{Kind: m.one([]int{1, 1, 1, 3, 3, 3, 4}), A: m.below(n + 2), B: m.one(farNumbers), C: m.one(farNumbers)}
	if !wild {
		return c
	}
	switch m.below(12) {
	case 0:
		c.Kind = m.one([]int{lowest, -1, 0, 5, 6, highest})
	case 1:
		c.Kind, c.A = 2, m.one([]int{lowest, -1, 0, n + 1, n + 2, highest})
	case 2, 3, 4:
		c.Kind = 2
	}
	return c
}

func (m *mixer) mixed(wild bool) mixed {
	x := mixed{n: m.one([]int{1, 1, 2, 2, 3, 3, 4, 5, 9}), tag: m.one([]int{0, 0, 5, maxTag - 3, maxTag})}
	for range 1 + m.below(5) {
		var calls []api.Call
		for range m.below(9) {
			calls = append(calls, m.call(x.n, wild))
		}
		x.c.Work = append(x.c.Work, calls)
	}
	for range m.below(60) {
		x.c.Turns = append(x.c.Turns, m.one(farNumbers)+m.below(8))
	}
	if m.below(2) == 0 {
		for range m.below(7) {
			x.c.Halt = append(x.c.Halt, m.one(fewHalts))
		}
		x.c.Until = m.one(fewUntils)
	}
	return x
}

// mixedPlays calls f with so many Plays' arguments.
func mixedPlays(count int, wild bool, f func(x mixed)) {
	m := mixer(count)
	for range count {
		f(m.mixed(wild))
	}
}
