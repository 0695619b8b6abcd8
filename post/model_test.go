package post_test

import (
	"math"
	"reflect"
	"slices"
	"testing"

	"skein/api"
	"skein/crew"
	"skein/post"
)

// The calls of Play, by their names.
func send(box, v int) api.Call     { return api.Call{Kind: 1, A: box, B: v} }
func take(box int) api.Call        { return api.Call{Kind: 2, A: box} }
func closeBox(box int) api.Call    { return api.Call{Kind: 3, A: box} }
func length(box int) api.Call      { return api.Call{Kind: 4, A: box} }
func drain(box int) api.Call       { return api.Call{Kind: 5, A: box} }
func first(box, next int) api.Call { return api.Call{Kind: 6, A: box, B: next} }

// state: what a box holds, and whether it is closed.
type state struct {
	room   int
	holds  []int
	closed bool
}

func open(values ...int) state { return state{holds: values} }
func shut(values ...int) state { return state{holds: values, closed: true} }

// model: boxes as the chapter's lines say them.
type model []*state

func newModel(rooms []int) model {
	var m model
	for _, room := range rooms {
		m = append(m, &state{room: room})
	}
	return m
}

func (s *state) send(v int) api.Errno {
	switch {
	case s.closed:
		return 64
	case len(s.holds) == s.room:
		return 62
	}
	s.holds = append(s.holds, v)
	return 0
}

func (s *state) take() (int, api.Errno) {
	if len(s.holds) > 0 {
		v := s.holds[0]
		s.holds = s.holds[1:]
		return v, 0
	}
	if s.closed {
		return 0, 64
	}
	return 0, 63
}

func (s *state) close() api.Errno {
	if s.closed {
		return 64
	}
	s.closed = true
	return 0
}

func (m model) first(places ...int) (int, int, api.Errno) {
	err := api.Errno(64)
	for i, place := range places {
		v, e := m[place].take()
		if e == 0 {
			return i, v, 0
		}
		if e == 63 {
			err = e
		}
	}
	return 0, 0, err
}

func (m model) begin(_ int, c api.Call) line {
	has := func(i int) bool { return 0 <= i && i < len(m) }
	if c.Kind < 1 || c.Kind > 6 || !has(c.A) || c.Kind == 6 && !has(c.B) {
		return func() (api.Answer, bool) { return api.Answer{Err: 60}, true }
	}
	var taken []int
	return func() (api.Answer, bool) {
		var a api.Answer
		switch s := m[c.A]; c.Kind {
		case 1:
			a.Err = s.send(c.B)
		case 2:
			a.N, a.Err = s.take()
		case 3:
			a.Err = s.close()
		case 4:
			a.N = len(s.holds)
		case 5:
			v, err := s.take()
			if err == 0 {
				taken = append(taken, v)
				return a, false
			}
			a.Ints = taken
		case 6:
			a.N, a.M, a.Err = m.first(c.A, c.B)
		}
		return a, true
	}
}

func (m model) left() [][]int {
	var lists [][]int
	for _, s := range m {
		lists = append(lists, slices.Clone(s.holds))
	}
	return lists
}

func (m model) play(c api.Case) (api.Run, [][]int) {
	run := modelRun(c, m.begin)
	return run, m.left()
}

// alone does a call with all its lines at once.
func (m model) alone(c api.Call) api.Answer {
	l := m.begin(0, c)
	for {
		if a, ended := l(); ended {
			return a
		}
	}
}

func newBox(t *testing.T, room int) *post.Box {
	t.Helper()
	b, err := post.New(room)
	if err != api.OK || b == nil {
		t.Fatalf("P6.1: New(%d): %v, %v", room, b, err)
	}
	return b
}

// boxes: some, whose calls are called by their names.
type boxes []*post.Box

func newBoxes(t *testing.T, rooms []int) boxes {
	t.Helper()
	var x boxes
	for _, room := range rooms {
		x = append(x, newBox(t, room))
	}
	return x
}

func (x boxes) do(w *crew.Worker, c api.Call) api.Answer {
	var a api.Answer
	has := func(i int) bool { return 0 <= i && i < len(x) }
	if c.Kind < 1 || c.Kind > 6 || !has(c.A) || c.Kind == 6 && !has(c.B) {
		a.Err = api.ErrPostCall
		return a
	}
	switch b := x[c.A]; c.Kind {
	case 1:
		a.Err = b.Send(w, c.B)
	case 2:
		a.N, a.Err = b.Take(w)
	case 3:
		a.Err = b.Close(w)
	case 4:
		a.N = b.Len(w)
	case 5:
		a.Ints = b.Drain(w)
	case 6:
		a.N, a.M, a.Err = post.First(w, b, x[c.B])
	}
	return a
}

// were tells whether the boxes are as it is said; they are empty and closed behind it.
func (x boxes) were(want ...state) bool {
	same := len(x) == len(want)
	for i, b := range x {
		n := b.Len(nil)
		values, closed := b.Drain(nil), b.Close(nil) == api.ErrPostClosed
		same = same && n == len(values) && slices.Equal(values, want[i].holds) && closed == want[i].closed
	}
	return same
}

func (m model) states() []state {
	var list []state
	for _, s := range m {
		list = append(list, *s)
	}
	return list
}

func sameAnswer(a, b api.Answer) bool {
	return a.Ok == b.Ok && a.N == b.N && a.M == b.M && a.Err == b.Err && slices.Equal(a.Ints, b.Ints) && len(a.Pairs) == 0 && len(b.Pairs) == 0
}

// sameLists holds lists against each other; a nil list and an empty one are the same.
func sameLists(a, b [][]int) bool { return reflect.DeepEqual(plainLists(a), plainLists(b)) }

func plainLists(lists [][]int) [][]int {
	var plain [][]int
	for _, list := range lists {
		plain = append(plain, append([]int(nil), list...))
	}
	return plain
}

func wantPlay(t *testing.T, promise string, rooms []int, c api.Case, want api.Run, left [][]int) {
	t.Helper()
	run, got, err := post.Play(rooms, c)
	if err != api.OK || !sameRun(run, want) || !sameLists(got, left) {
		t.Fatalf("%s: Play(%v, %+v)\ngot  %+v %v %v\nwant %+v %v", promise, rooms, c, run, got, err, want, left)
	}
}

// wantModel holds a Play against the model.
func wantModel(t *testing.T, promise string, rooms []int, c api.Case) (api.Run, [][]int) {
	t.Helper()
	run, left := newModel(rooms).play(c)
	wantPlay(t, promise, rooms, c, run, left)
	return run, left
}

func work(calls ...[]api.Call) api.Case { return api.Case{Work: calls} }

const (
	lowest  = math.MinInt
	highest = math.MaxInt
)

var (
	farNumbers = []int{lowest, lowest + 1, -1 << 32, -65, -2, -1, 0, 1, 2, 63, 64, 65, 1 << 32, highest - 1, highest}
	fewHalts   = []int{lowest, -1, 0, 0, 0, 1, 2, 3, 4, 5, 8, highest}
	fewUntils  = []int{0, 0, 0, 0, 1, 2, 3, 7, 15, 19999, 20000}
)

// mixed: a Play's arguments.
type mixed struct {
	rooms []int
	c     api.Case
}

// call: over so many boxes; now and then one that can't be, if wild.
func (m *mixer) call(count int, wild bool) api.Call {
	kind := m.one([]int{1, 1, 1, 1, 1, 2, 2, 2, 4, 5, 6, 6})
	if m.below(25) == 0 {
		kind = 3
	}
	c := api.Call{Kind: kind, A: m.below(count), B: m.below(count)}
	if kind == 1 {
		c.B = m.below(1000)
	}
	if !wild {
		return c
	}
	switch m.below(20) {
	case 0:
		c.Kind = m.one([]int{lowest, -1, 0, 7, 8, highest})
	case 1:
		c.A = m.one([]int{lowest, -1, count, count + 1, highest})
	case 2:
		c.B = m.one(farNumbers)
	}
	return c
}

func (m *mixer) mixed(wild bool) mixed {
	x := mixed{}
	for range 1 + m.below(3) {
		x.rooms = append(x.rooms, m.one([]int{1, 1, 2, 3, 4, 64}))
	}
	for range 1 + m.below(5) {
		var calls []api.Call
		for range m.below(12) {
			calls = append(calls, m.call(len(x.rooms), wild))
		}
		x.c.Work = append(x.c.Work, calls)
	}
	for range m.below(40) {
		x.c.Turns = append(x.c.Turns, m.one(farNumbers)+m.below(8))
	}
	if m.below(2) == 0 {
		for range m.below(7) {
			x.c.Halt = append(x.c.Halt, m.one(fewHalts))
		}
		x.c.Until = m.one(fewUntils)
	}
	return x
}

// mixedPlays calls f with so many Plays' arguments.
func mixedPlays(count int, wild bool, f func(x mixed)) {
	m := mixer(count)
	for range count {
		f(m.mixed(wild))
	}
}
