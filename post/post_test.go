package post_test

import (
	"runtime"
	"slices"
	"testing"
	"time"

	"skein/api"
	"skein/crew"
	"skein/post"
)

func TestExampleOfABox(t *testing.T) {
	x := newBoxes(t, []int{2})
	for i, d := range []struct {
		call   api.Call
		answer api.Answer
	}{
		{send(0, 5), api.Answer{}},
		{send(0, 6), api.Answer{}},
		{send(0, 7), api.Answer{Err: api.ErrPostFull}},
		{take(0), api.Answer{N: 5}},
		{closeBox(0), api.Answer{}},
		{send(0, 8), api.Answer{Err: api.ErrPostClosed}},
		{take(0), api.Answer{N: 6}},
		{take(0), api.Answer{Err: api.ErrPostClosed}},
		{closeBox(0), api.Answer{Err: api.ErrPostClosed}},
	} {
		if a := x.do(nil, d.call); !sameAnswer(a, d.answer) {
			t.Errorf("P6.1: the chapter's example 1, call %d: %+v, want %+v", i, a, d.answer)
		}
	}
}

func TestExampleOfFirst(t *testing.T) {
	x := newBoxes(t, []int{1, 1})
	x[1].Send(nil, 3)
	if place, v, err := post.First(nil, x...); place != 1 || v != 3 || err != api.OK {
		t.Errorf("P6.2: the chapter's example 2: %d, %d, %v", place, v, err)
	}
}

// Each room that may be is the room that a box has, before it was ever full and behind it.
func TestRooms(t *testing.T) {
	for room := 1; room <= api.MaxRoom; room++ {
		b := newBox(t, room)
		if n := b.Len(nil); n != 0 {
			t.Errorf("P6.1: New(%d): it holds %d", room, n)
		}
		if v, err := b.Take(nil); v != 0 || err != api.ErrPostEmpty {
			t.Errorf("P6.1: New(%d): Take: %d, %v", room, v, err)
		}
		for round := range 3 {
			for i := range room {
				if err := b.Send(nil, 100*round+i); err != api.OK || b.Len(nil) != i+1 {
					t.Fatalf("P6.1: room %d: Send %d: %v, it holds %d", room, i, err, b.Len(nil))
				}
			}
			if err := b.Send(nil, -1); err != api.ErrPostFull || b.Len(nil) != room {
				t.Fatalf("P6.1: room %d: one too many: %v, it holds %d", room, err, b.Len(nil))
			}
			for i := range room {
				if v, err := b.Take(nil); v != 100*round+i || err != api.OK || b.Len(nil) != room-i-1 {
					t.Fatalf("P6.1: room %d: Take %d: %d, %v, it holds %d", room, i, v, err, b.Len(nil))
				}
			}
		}
	}
}

var noRooms = []int{lowest, -1 << 32, -64, -1, 0, 65, 66, 128, 1 << 32, 1<<32 + 1, highest}

func TestNoRooms(t *testing.T) {
	for _, room := range noRooms {
		if b, err := post.New(room); b != nil || err != api.ErrPostRoom {
			t.Errorf("P6.1: New(%d): %v, %v", room, b, err)
		}
	}
}

// deed: a call behind some others, over boxes of the rooms 2, 1 and 3: what it answers, its lines, how the boxes are then.
type deed struct {
	ahead  []api.Call
	call   api.Call
	answer api.Answer
	lines  int
	left   []state
}

var deedRooms = []int{2, 1, 3}

func deeds() []deed {
	some := []api.Call{send(0, 5), send(0, 6), send(2, 7)}
	was := []state{open(5, 6), open(), open(7)}
	part := slices.Concat(some, []api.Call{closeBox(0), closeBox(1)})
	wasPart := []state{shut(5, 6), shut(), open(7)}
	none := []state{open(), open(), open()}
	all := []api.Call{closeBox(0), closeBox(1), closeBox(2)}
	wasAll := []state{shut(), shut(), shut()}
	odd := []api.Call{send(2, 0), send(2, lowest), send(2, highest)}
	full, empty, closed := api.Answer{Err: api.ErrPostFull}, api.Answer{Err: api.ErrPostEmpty}, api.Answer{Err: api.ErrPostClosed}
	return []deed{
		{nil, send(0, 5), api.Answer{}, 1, []state{open(5), open(), open()}},
		{nil, send(2, 0), api.Answer{}, 1, []state{open(), open(), open(0)}},
		{some, send(0, 9), full, 1, was},
		{some, send(1, highest), api.Answer{}, 1, []state{open(5, 6), open(highest), open(7)}},
		{some, send(2, lowest), api.Answer{}, 1, []state{open(5, 6), open(), open(7, lowest)}},
		{some, send(2, 7), api.Answer{}, 1, []state{open(5, 6), open(), open(7, 7)}},
		{part, send(0, 9), closed, 1, wasPart},
		{part, send(1, 9), closed, 1, wasPart},
		{part, send(2, 9), api.Answer{}, 1, []state{shut(5, 6), shut(), open(7, 9)}},
		{nil, take(0), empty, 1, none},
		{some, take(0), api.Answer{N: 5}, 1, []state{open(6), open(), open(7)}},
		{some, take(1), empty, 1, was},
		{some, take(2), api.Answer{N: 7}, 1, []state{open(5, 6), open(), open()}},
		{odd, take(2), api.Answer{}, 1, []state{open(), open(), open(lowest, highest)}},
		{odd[1:], take(2), api.Answer{N: lowest}, 1, []state{open(), open(), open(highest)}},
		{part, take(0), api.Answer{N: 5}, 1, []state{shut(6), shut(), open(7)}},
		{part, take(1), closed, 1, wasPart},
		{part, take(2), api.Answer{N: 7}, 1, []state{shut(5, 6), shut(), open()}},
		{nil, closeBox(1), api.Answer{}, 1, []state{open(), shut(), open()}},
		{some, closeBox(0), api.Answer{}, 1, []state{shut(5, 6), open(), open(7)}},
		{part, closeBox(0), closed, 1, wasPart},
		{part, closeBox(1), closed, 1, wasPart},
		{part, closeBox(2), api.Answer{}, 1, []state{shut(5, 6), shut(), shut(7)}},
		{nil, length(0), api.Answer{}, 1, none},
		{some, length(0), api.Answer{N: 2}, 1, was},
		{some, length(1), api.Answer{}, 1, was},
		{some, length(2), api.Answer{N: 1}, 1, was},
		{part, length(0), api.Answer{N: 2}, 1, wasPart},
		{part, length(1), api.Answer{}, 1, wasPart},
		{nil, drain(0), api.Answer{}, 1, none},
		{some, drain(0), api.Answer{Ints: []int{5, 6}}, 3, []state{open(), open(), open(7)}},
		{some, drain(1), api.Answer{}, 1, was},
		{some, drain(2), api.Answer{Ints: []int{7}}, 2, []state{open(5, 6), open(), open()}},
		{odd, drain(2), api.Answer{Ints: []int{0, lowest, highest}}, 4, none},
		{part, drain(0), api.Answer{Ints: []int{5, 6}}, 3, []state{shut(), shut(), open(7)}},
		{part, drain(1), api.Answer{}, 1, wasPart},
		{some, first(0, 2), api.Answer{N: 0, M: 5}, 1, []state{open(6), open(), open(7)}},
		{some, first(2, 0), api.Answer{N: 0, M: 7}, 1, []state{open(5, 6), open(), open()}},
		{some, first(1, 2), api.Answer{N: 1, M: 7}, 1, []state{open(5, 6), open(), open()}},
		{some, first(1, 0), api.Answer{N: 1, M: 5}, 1, []state{open(6), open(), open(7)}},
		{some, first(0, 0), api.Answer{N: 0, M: 5}, 1, []state{open(6), open(), open(7)}},
		{some, first(1, 1), empty, 1, was},
		{odd, first(0, 2), api.Answer{N: 1}, 1, []state{open(), open(), open(lowest, highest)}},
		{nil, first(0, 1), empty, 1, none},
		{nil, first(2, 2), empty, 1, none},
		{part, first(0, 2), api.Answer{N: 0, M: 5}, 1, []state{shut(6), shut(), open(7)}},
		{part, first(1, 0), api.Answer{N: 1, M: 5}, 1, []state{shut(6), shut(), open(7)}},
		{part, first(1, 2), api.Answer{N: 1, M: 7}, 1, []state{shut(5, 6), shut(), open()}},
		{part, first(1, 1), closed, 1, wasPart},
		{all[:1], first(0, 1), empty, 1, []state{shut(), open(), open()}},
		{all[:1], first(1, 0), empty, 1, []state{shut(), open(), open()}},
		{all[:1], first(0, 0), closed, 1, []state{shut(), open(), open()}},
		{all, first(2, 1), closed, 1, wasAll},
		{all, take(2), closed, 1, wasAll},
		{all, send(2, 1), closed, 1, wasAll},
		{all, drain(2), api.Answer{}, 1, wasAll},
	}
}

func TestDeedsAlone(t *testing.T) {
	for _, d := range deeds() {
		x := newBoxes(t, deedRooms)
		for _, c := range d.ahead {
			x.do(nil, c)
		}
		if a := x.do(nil, d.call); !sameAnswer(a, d.answer) {
			t.Errorf("P6.1, P6.2: behind %+v: %+v: %+v, want %+v", d.ahead, d.call, a, d.answer)
		}
		if !x.were(d.left...) {
			t.Errorf("P6.1, P6.2: behind %+v: %+v doesn't leave %+v", d.ahead, d.call, d.left)
		}
	}
}

// A worker of a run counts the lines of a call that is called by its name; nothing of it is done ahead of its first line's step.
func TestDeedsByAWorker(t *testing.T) {
	for _, d := range deeds() {
		x := newBoxes(t, deedRooms)
		c := work([]api.Call{d.call}, d.ahead)
		c.Turns = []int{0}
		for range d.ahead {
			c.Turns = append(c.Turns, 1)
		}
		run, _ := crew.Run(c, does(func(w *crew.Worker, call api.Call) api.Answer {
			if w.Number() == 0 {
				w.Step()
			}
			return x.do(w, call)
		}))
		if a := run.Answers[0][0]; !sameAnswer(a, d.answer) || a.Own != d.lines+1 || run.Steps != len(d.ahead)+d.lines+1 {
			t.Errorf("P6.1, P6.2: behind %+v: %+v: %+v, want %+v in %d lines", d.ahead, d.call, a, d.answer, d.lines)
		}
		if !x.were(d.left...) {
			t.Errorf("P6.1, P6.2: behind %+v: %+v doesn't leave %+v", d.ahead, d.call, d.left)
		}
	}
}

func TestDeedsPlayed(t *testing.T) {
	for _, d := range deeds() {
		run, left, err := post.Play(deedRooms, work(append(slices.Clone(d.ahead), d.call)))
		var holds [][]int
		for _, s := range d.left {
			holds = append(holds, s.holds)
		}
		if err != api.OK || !sameLists(left, holds) || len(run.Answers[0]) != len(d.ahead)+1 || run.Cut || len(run.Open) > 0 {
			t.Errorf("P6.5: %+v, %+v: %+v, %v, %v", d.ahead, d.call, run, left, err)
			continue
		}
		a := run.Answers[0][len(d.ahead)]
		if !sameAnswer(a, d.answer) || a.Own != d.lines || a.Begin != run.Steps-d.lines+1 || a.End != run.Steps {
			t.Errorf("P6.5: %+v, %+v: %+v of %d steps, want %+v in %d lines", d.ahead, d.call, a, run.Steps, d.answer, d.lines)
		}
	}
}

func TestBoxesApart(t *testing.T) {
	x := newBoxes(t, []int{3, 3, 3})
	x[1].Send(nil, 4)
	x[2].Close(nil)
	if !x.were(open(), open(4), shut()) {
		t.Error("P6.1: one box's values or its end in another one")
	}
}

func wantFirst(t *testing.T, what string, place, v int, err api.Errno, l ...*post.Box) {
	t.Helper()
	if i, n, e := post.First(nil, l...); i != place || n != v || e != err {
		t.Errorf("P6.2: First of %s: %d, %d, %v, want %d, %d, %v", what, i, n, e, place, v, err)
	}
}

func TestFirstOfFew(t *testing.T) {
	empty, closed := newBox(t, 1), newBox(t, 2)
	closed.Close(nil)
	wantFirst(t, "no box", 0, 0, api.ErrPostClosed)
	wantFirst(t, "a nil box", 0, 0, api.ErrPostClosed, nil)
	wantFirst(t, "nil boxes", 0, 0, api.ErrPostClosed, nil, nil, nil)
	wantFirst(t, "an empty box", 0, 0, api.ErrPostEmpty, empty)
	wantFirst(t, "a closed box", 0, 0, api.ErrPostClosed, closed)
	wantFirst(t, "a closed box and nil ones", 0, 0, api.ErrPostClosed, nil, closed, nil)
	wantFirst(t, "an empty box and nil ones", 0, 0, api.ErrPostEmpty, nil, empty, nil)
	wantFirst(t, "an empty box behind closed ones", 0, 0, api.ErrPostEmpty, closed, closed, nil, empty)
	wantFirst(t, "an empty box ahead of closed ones", 0, 0, api.ErrPostEmpty, empty, closed, nil, closed)
	wantFirst(t, "an empty box twice", 0, 0, api.ErrPostEmpty, empty, empty)
}

func TestFirstPassesOver(t *testing.T) {
	empty, closed, late, full := newBox(t, 1), newBox(t, 1), newBox(t, 2), newBox(t, 3)
	closed.Close(nil)
	for _, v := range []int{0, 11, 12} {
		full.Send(nil, v)
	}
	late.Send(nil, 21)
	late.Send(nil, 22)
	late.Close(nil)
	wantFirst(t, "a box that holds 0", 3, 0, api.OK, nil, empty, closed, full, late)
	wantFirst(t, "a closed box that holds something", 2, 21, api.OK, nil, empty, late, full)
	wantFirst(t, "a box that stands there twice", 1, 11, api.OK, empty, full, full)
	wantFirst(t, "one box alone", 0, 12, api.OK, full)
	wantFirst(t, "a box that is empty now", 5, 22, api.OK, full, full, nil, nil, empty, late, late)
	wantFirst(t, "what is left", 0, 0, api.ErrPostEmpty, full, late)
	wantFirst(t, "closed ones", 0, 0, api.ErrPostClosed, late, closed, nil)
	if n := empty.Len(nil) + closed.Len(nil) + late.Len(nil) + full.Len(nil); n != 0 {
		t.Errorf("P6.2: the boxes hold %d", n)
	}
}

// Of many boxes the first that holds something is told by its place, as often as it stands there.
func TestFirstOfMany(t *testing.T) {
	const count = 3000
	var l []*post.Box
	for i := range count {
		if i%7 == 3 {
			l = append(l, nil)
			continue
		}
		l = append(l, newBox(t, 2))
	}
	l = append(l, l...)
	for _, i := range []int{2998, 1500, 0, 2} {
		l[i].Send(nil, i)
		l[i].Send(nil, -i)
	}
	kept := slices.Clone(l)
	for _, i := range []int{0, 2, 1500, 2998} {
		wantFirst(t, "many", i, i, api.OK, l...)
		wantFirst(t, "many", i, -i, api.OK, l...)
	}
	wantFirst(t, "many", 0, 0, api.ErrPostEmpty, l...)
	for i, b := range l[:count] {
		if b != nil && i != 1717 {
			b.Close(nil)
		}
	}
	wantFirst(t, "many, one of them open", 0, 0, api.ErrPostEmpty, l...)
	l[1717].Close(nil)
	wantFirst(t, "many closed ones", 0, 0, api.ErrPostClosed, l...)
	if !slices.Equal(l, kept) {
		t.Error("P6.2: First changed the list")
	}
}

// First is one line, of however many boxes.
func TestFirstByAWorker(t *testing.T) {
	for _, count := range []int{0, 1, 2, 5, 40} {
		l := make([]*post.Box, count)
		for i := range l {
			if i != 2 {
				l[i] = newBox(t, 1)
			}
		}
		run, _ := crew.Run(work([]api.Call{{}, {}, {}}, []api.Call{{}}), does(func(w *crew.Worker, _ api.Call) api.Answer {
			if w.Number() == 1 {
				w.Step()
				if count > 0 {
					l[count-1].Send(nil, 9)
				}
				return api.Answer{}
			}
			w.Step()
			var a api.Answer
			a.N, a.M, a.Err = post.First(w, l...)
			return a
		}))
		empty, closed := api.Answer{Err: api.ErrPostEmpty}, api.Answer{Err: api.ErrPostClosed}
		want := []api.Answer{{N: count - 1, M: 9}, empty, empty}
		if count == 0 {
			want = []api.Answer{closed, closed, closed}
		}
		for i, a := range run.Answers[0] {
			if !sameAnswer(a, want[i]) || a.Own != 2 {
				t.Errorf("P6.2: First of %d boxes, call %d: %+v, want %+v", count, i, a, want[i])
			}
		}
	}
}

func TestAloneAgainstModel(t *testing.T) {
	r := mixer(7)
	rooms := []int{1, 2, 3, 64}
	for range 300 {
		x, m := newBoxes(t, rooms), newModel(rooms)
		for range 100 {
			call := r.call(len(rooms), true)
			if a, want := x.do(nil, call), m.alone(call); !sameAnswer(a, want) {
				t.Fatalf("P6.1, P6.2: %+v: %+v, want %+v", call, a, want)
			}
		}
		if !x.were(m.states()...) {
			t.Errorf("P6.1, P6.2: not %+v", m.left())
		}
	}
}

func some(n, room int) []int {
	rooms := make([]int, n)
	for i := range rooms {
		rooms[i] = room
	}
	return rooms
}

func TestPlayRefuses(t *testing.T) {
	good := work([]api.Call{send(0, 1)})
	bad := api.Case{}
	type refusal struct {
		rooms []int
		c     api.Case
		err   api.Errno
	}
	list := []refusal{
		{nil, good, api.ErrPostRoom},
		{[]int{}, good, api.ErrPostRoom},
		{some(65, 1), good, api.ErrPostRoom},
		{some(66, 64), good, api.ErrPostRoom},
		{some(5000, 1), good, api.ErrPostRoom},
		{some(64, 0), good, api.ErrPostRoom},
		{nil, bad, api.ErrPostRoom},
		{some(65, 1), bad, api.ErrPostRoom},
		{some(65, 0), bad, api.ErrPostRoom},
		{[]int{1, 0}, bad, api.ErrPostRoom},
		{[]int{1}, bad, api.ErrCrewCase},
		{some(64, 64), bad, api.ErrCrewCase},
		{[]int{1}, api.Case{Work: make([][]api.Call, 9)}, api.ErrCrewCase},
		{[]int{1}, work(nil, make([]api.Call, 65)), api.ErrCrewCase},
		{[]int{1}, api.Case{Work: good.Work, Until: -1}, api.ErrCrewCase},
		{[]int{1}, api.Case{Work: good.Work, Until: api.MaxSteps + 1}, api.ErrCrewCase},
	}
	for _, room := range noRooms {
		for _, rooms := range [][]int{{room}, {room, 1}, {1, room}, {1, room, 64}, append(some(63, 2), room)} {
			list = append(list, refusal{rooms, good, api.ErrPostRoom}, refusal{rooms, bad, api.ErrPostRoom})
		}
	}
	for _, x := range list {
		run, left, err := post.Play(x.rooms, x.c)
		if err != x.err || !sameRun(run, api.Run{}) || len(left) > 0 {
			t.Errorf("P6.5: Play(%v, %+v): %+v, %v, %v, want %v", x.rooms, x.c, run, left, err, x.err)
		}
	}
}

func TestIdlePlay(t *testing.T) {
	for _, rooms := range [][]int{{1}, {64}, {1, 2, 64}, some(64, 64)} {
		wantPlay(t, "P6.5: no calls", rooms, work(nil, nil), api.Run{Answers: [][]api.Answer{nil, nil}}, make([][]int, len(rooms)))
	}
}

// Each room is that of the box at its place.
func TestPlayedRooms(t *testing.T) {
	rooms := []int{3, 1, 64, 2}
	for place, room := range rooms {
		c := work(nil, nil)
		for i := range room + 1 {
			c.Work[i/64] = append(c.Work[i/64], send(place, 10+i))
		}
		c.Turns = make([]int, room)
		run, left := wantModel(t, "P6.5: rooms", rooms, c)
		if n := len(left[place]); n != room || run.Answers[room/64][room%64].Err != api.ErrPostFull {
			t.Errorf("P6.5: a room of %d: it holds %d", room, n)
		}
	}
}

func TestKindsThatCantBe(t *testing.T) {
	refused := api.Answer{Begin: 1, End: 1, Own: 1, Err: api.ErrPostCall}
	for _, kind := range []int{lowest, -6, -1, 0, 7, 8, 100, 1<<32 + 1, highest} {
		for _, place := range []int{-1, 0, 1, 2, 40, highest} {
			call := api.Call{Kind: kind, A: place, B: 1, C: 4, Pairs: []api.Pair{{Key: 1, Value: 2}}}
			wantPlay(t, "P6.5: a Kind that can't be", []int{2, 3}, work([]api.Call{call}), api.Run{Steps: 1, Answers: [][]api.Answer{{refused}}}, make([][]int, 2))
		}
	}
	wantPlay(t, "P6.5: behind a refused call", []int{2}, work([]api.Call{{Kind: 7}, send(0, 4)}), api.Run{Steps: 2, Answers: [][]api.Answer{
		{refused, {Begin: 2, End: 2, Own: 1}},
	}}, [][]int{{4}})
}

// A refused call is a line, and changes nothing, whatever the boxes are.
func TestNoPlace(t *testing.T) {
	for _, rooms := range [][]int{{1}, {2, 2}, some(64, 3)} {
		n := len(rooms)
		for _, place := range []int{lowest, lowest + 1, -1 << 32, -64, -1, n, n + 1, 2 * n, 64, 1 << 32, 1<<32 + 1, highest} {
			calls := []api.Call{send(place, 0), take(place), closeBox(place), length(place), drain(place), first(place, 0), first(0, place), first(place, place), first(n-1, place)}
			for _, call := range calls {
				c := work([]api.Call{send(0, 5), call, take(0)})
				wantPlay(t, "P6.5: no place", rooms, c, api.Run{Steps: 3, Answers: [][]api.Answer{{
					{Begin: 1, End: 1, Own: 1}, {Begin: 2, End: 2, Own: 1, Err: api.ErrPostCall}, {Begin: 3, End: 3, Own: 1, N: 5},
				}}}, make([][]int, n))
			}
		}
	}
}

func TestLastPlace(t *testing.T) {
	for _, n := range []int{1, 2, 64} {
		last := n - 1
		wantModel(t, "P6.5: the last place", some(n, 2), work([]api.Call{
			send(last, 5), send(last, 6), send(last, 7), length(last), take(last), first(0, last), first(last, 0), send(last, 8), closeBox(last), drain(last), first(last, last), send(last, 9),
		}))
	}
}

// What a call has no use for isn't looked at, nor answered.
func TestFieldsWithoutUse(t *testing.T) {
	rest := []api.Pair{{Key: 1, Value: 2}}
	c := work([]api.Call{
		{Kind: 1, A: 1, B: -4, C: 9, Pairs: rest},
		{Kind: 1, A: 1, B: 99, C: -9, Pairs: rest},
		{Kind: 2, A: 1, B: -1, C: 9, Pairs: rest},
		{Kind: 4, A: 1, B: 99, C: -1, Pairs: rest},
		{Kind: 6, A: 0, B: 1, C: 99, Pairs: rest},
		{Kind: 3, A: 1, B: lowest, C: 9, Pairs: rest},
		{Kind: 5, A: 0, B: -1, C: 9, Pairs: rest},
	})
	wantPlay(t, "P6.5: fields", []int{2, 2}, c, api.Run{Steps: 7, Answers: [][]api.Answer{{
		{Begin: 1, End: 1, Own: 1},
		{Begin: 2, End: 2, Own: 1},
		{Begin: 3, End: 3, Own: 1, N: -4},
		{Begin: 4, End: 4, Own: 1, N: 1},
		{Begin: 5, End: 5, Own: 1, N: 1, M: 99},
		{Begin: 6, End: 6, Own: 1},
		{Begin: 7, End: 7, Own: 1},
	}}}, make([][]int, 2))
}

func TestGreatestCase(t *testing.T) {
	var c api.Case
	r := mixer(3)
	for range api.MaxWorkers {
		var calls []api.Call
		for range api.MaxCalls {
			calls = append(calls, r.call(api.MaxRoom, false))
		}
		c.Work = append(c.Work, calls)
	}
	c.Turns = []int{5, 3, 3, -1}
	wantModel(t, "P6.5: the greatest case", some(api.MaxRoom, api.MaxRoom), c)
	for k := range c.Work {
		for i := range c.Work[k] {
			c.Work[k][i] = send(i%8, 100*k+i)
		}
	}
	_, left := wantModel(t, "P6.5: the greatest case", some(api.MaxRoom, api.MaxRoom), c)
	for i, list := range left {
		if want := map[bool]int{true: api.MaxRoom}[i < 8]; len(list) != want {
			t.Errorf("P6.5: box %d holds %d, want %d", i, len(list), want)
		}
	}
}

// What is sent between a Drain's lines it takes too; what comes behind its last one stays.
func TestSendsBetweenADrainsLines(t *testing.T) {
	for lines := range 4 {
		c := work([]api.Call{send(0, 1), send(0, 2), drain(0)}, []api.Call{send(0, 3)})
		c.Turns = append(make([]int, 2+lines), 1)
		want, left, own := []int{1, 2, 3}, []int(nil), 4
		if lines == 3 {
			want, left, own = []int{1, 2}, []int{3}, 3
		}
		run, holds := wantModel(t, "P6.1: Drain", []int{3}, c)
		if a := run.Answers[0][2]; !slices.Equal(a.Ints, want) || a.Own != own || !slices.Equal(holds[0], left) {
			t.Errorf("P6.1: a Send behind %d of a Drain's lines: %+v, %v", lines, a, holds)
		}
	}
}

// Two that drain one box share what it holds; each of them has its values in their order.
func TestTwoDrains(t *testing.T) {
	ahead := []api.Call{send(0, 1), send(0, 2), send(0, 3)}
	orders(2, 5, func(turns []int) {
		c := work(append(slices.Clone(ahead), drain(0)), []api.Call{drain(0)})
		c.Turns = append(make([]int, 3), turns...)
		run, left := wantModel(t, "P6.1: Drain", []int{3}, c)
		a, b := run.Answers[0][3], run.Answers[1][0]
		all := slices.Concat(a.Ints, b.Ints)
		slices.Sort(all)
		if !slices.Equal(all, []int{1, 2, 3}) || !slices.IsSorted(a.Ints) || !slices.IsSorted(b.Ints) || a.Own != len(a.Ints)+1 || b.Own != len(b.Ints)+1 || len(left[0]) > 0 {
			t.Errorf("P6.1: two Drains, turns %v: %+v and %+v, %v", turns, a, b, left)
		}
	})
}

// A Drain ends with the first Take that answers an error, also if the box was closed between its lines.
func TestClosedBetweenADrainsLines(t *testing.T) {
	for lines := range 4 {
		c := work([]api.Call{send(0, 1), send(0, 2), drain(0)}, []api.Call{closeBox(0), send(0, 3)})
		c.Turns = append(make([]int, 2+lines), 1, 1)
		run, _ := wantModel(t, "P6.1: Drain", []int{3}, c)
		if a := run.Answers[0][2]; !slices.Equal(a.Ints, []int{1, 2}) || a.Own != 3 {
			t.Errorf("P6.1: a Close behind %d of a Drain's lines: %+v", lines, a)
		}
	}
}

// What a Drain took that was stopped in its midst is gone; the rest stays.
func TestHaltsAndCutsInADrain(t *testing.T) {
	for lines := 1; lines <= 4; lines++ {
		for _, closed := range []bool{false, true} {
			calls := []api.Call{send(0, 1), send(0, 2), send(0, 3), length(0), drain(0), take(0)}
			if closed {
				calls[3] = closeBox(0)
			}
			for _, cut := range []bool{false, true} {
				c := work(calls)
				if cut {
					c.Until = 4 + lines
				} else {
					c.Halt = []int{4 + lines}
				}
				run, left := wantModel(t, "P6.5: Drain", []int{3}, c)
				open, ended := []api.Open{{Worker: 0, Begin: 5, Own: lines}}, 4
				if lines == 4 {
					open, ended = nil, 5
				}
				if run.Cut != cut || run.Steps != 4+lines || !slices.Equal(run.Open, open) || len(run.Answers[0]) != ended || !slices.Equal(left[0], []int{1, 2, 3}[min(lines, 3):]) {
					t.Errorf("P6.5: a Drain stopped behind %d lines, cut %v: %+v, %v", lines, cut, run, left)
				}
			}
		}
	}
}

// Others go on with what a halted Drain left.
func TestBehindAHaltedDrain(t *testing.T) {
	c := work([]api.Call{send(0, 1), send(0, 2), send(0, 3), drain(0)}, []api.Call{take(0), send(0, 4), length(0), drain(0), closeBox(0)})
	c.Halt = []int{4}
	c.Turns = make([]int, 4)
	wantPlay(t, "P6.5: behind a halted Drain", []int{3}, c, api.Run{
		Answers: [][]api.Answer{
			{{Begin: 1, End: 1, Own: 1}, {Begin: 2, End: 2, Own: 1}, {Begin: 3, End: 3, Own: 1}},
			{{Begin: 5, End: 5, Own: 1, N: 2}, {Begin: 6, End: 6, Own: 1}, {Begin: 7, End: 7, Own: 1, N: 2}, {Begin: 8, End: 10, Own: 3, Ints: []int{3, 4}}, {Begin: 11, End: 11, Own: 1}},
		},
		Open: []api.Open{{Worker: 0, Begin: 4, Own: 1}}, Steps: 11,
	}, [][]int{nil})
}

func TestAgainstModel(t *testing.T) {
	drained, opens, cuts := 0, 0, 0
	errs := map[api.Errno]int{}
	mixedPlays(8000, true, func(x mixed) {
		run, _ := wantModel(t, "P6.5", x.rooms, x.c)
		for _, answers := range run.Answers {
			for _, a := range answers {
				errs[a.Err]++
				if len(a.Ints) > 1 {
					drained++
				}
			}
		}
		opens += len(run.Open)
		if run.Cut {
			cuts++
		}
	})
	if drained < 100 || opens < 100 || cuts < 100 || errs[api.ErrPostFull] < 100 || errs[api.ErrPostEmpty] < 100 || errs[api.ErrPostClosed] < 100 || errs[api.ErrPostCall] < 100 {
		t.Errorf("the cases are too plain: %d drained, %d open, %d cut, errors %v", drained, opens, cuts, errs)
	}
}

// Calls by their names, by the workers of a run, do the same lines as Play's.
func TestByNameAgainstModel(t *testing.T) {
	mixedPlays(3000, true, func(x mixed) {
		b, m := newBoxes(t, x.rooms), newModel(x.rooms)
		got, _ := crew.Run(x.c, does(b.do))
		want, _ := m.play(x.c)
		if !sameRun(got, want) || !b.were(m.states()...) {
			t.Fatalf("P6.1, P6.2: %+v\ngot  %+v\nwant %+v %+v", x, got, want, m.left())
		}
	})
}

// roomy copies a list into one with spare room, in which something stands.
func roomy(list []int) []int {
	room := append(slices.Clone(list), 71, 72, 73)
	return room[:len(list)]
}

// untouched tells whether a roomy list is as it was.
func untouched(list, was []int) bool {
	return slices.Equal(list, was) && slices.Equal(list[:len(list)+3][len(list):], []int{71, 72, 73})
}

// writeOver writes into a list and all the spare room behind it.
func writeOver(list []int) {
	list = list[:cap(list)]
	for i := range list {
		list[i] = -99
	}
}

func TestSameEachTime(t *testing.T) {
	mixedPlays(300, true, func(x mixed) {
		run, left, err := post.Play(x.rooms, x.c)
		for range 5 {
			again, then, e := post.Play(x.rooms, x.c)
			if !sameRun(run, again) || !sameLists(left, then) || e != err {
				t.Fatalf("P6.5: %+v\nonce %+v %v %v\nthen %+v %v %v", x, run, left, err, again, then, e)
			}
		}
	})
}

func TestPlayKeepsToItsOwnMemory(t *testing.T) {
	mixedPlays(600, true, func(x mixed) {
		c, rooms := plainCase(x.c), roomy(x.rooms)
		c.Turns, c.Halt = roomy(c.Turns), roomy(c.Halt)
		run, left, _ := post.Play(rooms, c)
		if !untouched(c.Turns, x.c.Turns) || !untouched(c.Halt, x.c.Halt) || !untouched(rooms, x.rooms) {
			t.Fatalf("P6.5: Play changed what was handed in: %v, %+v", rooms, c)
		}
		keptRun, kept := plainRun(run), plainLists(left)
		writeOver(c.Turns)
		writeOver(c.Halt)
		writeOver(rooms)
		for k := range c.Work {
			for i := range c.Work[k] {
				c.Work[k][i] = api.Call{Kind: -99}
			}
		}
		if !sameRun(run, keptRun) || !sameLists(left, kept) {
			t.Fatalf("P6.5: an answer hangs on what was handed in: %+v", x)
		}
		for i := range left {
			writeOver(left[i])
			if !sameLists(left[i+1:], kept[i+1:]) || !sameRun(run, keptRun) {
				t.Fatalf("P6.5: an answer hangs on what box %d holds: %+v", i, x)
			}
		}
		for k, answers := range run.Answers {
			for i := range answers {
				writeOver(answers[i].Ints)
				answers[i].Ints = nil
				keptRun.Answers[k][i].Ints = nil
				if !sameRun(run, keptRun) {
					t.Fatalf("P6.5: two answers share memory: %+v", x)
				}
			}
		}
		again, then := newModel(x.rooms).play(x.c)
		wantPlay(t, "P6.5: behind answers that were written over", x.rooms, x.c, again, then)
	})
}

// What a Drain answers is its own: neither the box nor a later Drain gets at it.
func TestDrainKeepsToItsOwnMemory(t *testing.T) {
	b := newBox(t, 5)
	var lists [][]int
	for round := range 4 {
		for i := range 5 {
			b.Send(nil, 10*round+i)
		}
		if round == 3 {
			writeOver(lists[1])
		}
		lists = append(lists, b.Drain(nil))
	}
	for _, round := range []int{0, 2, 3} {
		for i, v := range lists[round] {
			if v != 10*round+i {
				t.Errorf("P6.1: Drain %d: %v", round, lists[round])
			}
		}
	}
	writeOver(lists[2])
	if !slices.Equal(lists[3], []int{30, 31, 32, 33, 34}) {
		t.Errorf("P6.1: Drain: %v", lists[3])
	}
}

// leavesNothing tells that f leaves no goroutine behind.
func leavesNothing(t *testing.T, promise string, f func()) {
	t.Helper()
	before := runtime.NumGoroutine()
	f()
	for range 500 {
		if runtime.NumGoroutine() <= before {
			return
		}
		time.Sleep(time.Millisecond)
	}
	t.Errorf("%s: %d goroutines, %d ahead of it", promise, runtime.NumGoroutine(), before)
}

func TestPlayLeavesNothing(t *testing.T) {
	leavesNothing(t, "P6.5", func() {
		mixedPlays(200, true, func(x mixed) { post.Play(x.rooms, x.c) })
	})
}
