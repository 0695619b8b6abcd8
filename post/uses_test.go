package post_test

import (
	"runtime"
	"slices"
	"sort"
	"testing"

	"skein/api"
	"skein/crew"
	"skein/post"
)

// ended: a call that ended, who did it, and its answer.
type ended struct {
	worker int
	call   api.Call
	answer api.Answer
}

// allEnded: the calls that ended, in the order of their last lines.
func allEnded(c api.Case, run api.Run) []ended {
	var all []ended
	for k, answers := range run.Answers {
		for i, a := range answers {
			all = append(all, ended{k, c.Work[k][i], a})
		}
	}
	sort.Slice(all, func(i, j int) bool { return all[i].answer.End < all[j].answer.End })
	return all
}

// takenFrom tells whether a call took a value of a box, and which.
func (e ended) takenFrom(box int) (int, bool) {
	switch {
	case e.answer.Err != api.OK:
	case e.call.Kind == 2 && e.call.A == box:
		return e.answer.N, true
	case e.call.Kind == 6 && []int{e.call.A, e.call.B}[e.answer.N] == box:
		return e.answer.M, true
	}
	return 0, false
}

func (e ended) sentTo(box int) bool {
	return e.call.Kind == 1 && e.call.A == box && e.answer.Err == api.OK
}

// checkOrder holds P6.6 against a run without Drains: one line a call, so that the steps tell the order.
func checkOrder(t *testing.T, x mixed, all []ended, box int, left []int) {
	t.Helper()
	var sent, taken []int
	for _, e := range all {
		if e.sentTo(box) {
			sent = append(sent, e.call.B)
		}
		if v, ok := e.takenFrom(box); ok {
			taken = append(taken, v)
		}
	}
	if all := append(taken, left...); !slices.Equal(all, sent) {
		t.Fatalf("P6.6: %+v: box %d: sent %v, taken and left %v", x, box, sent, all)
	}
}

// checkDrained holds P6.6 against a run with Drains: each of its lists is in the order of the Sends, and nothing is lost but what Drains took that haven't ended.
func checkDrained(t *testing.T, x mixed, all []ended, open int, box int, left []int) {
	t.Helper()
	place, count := map[int]int{}, 0
	for _, e := range all {
		if e.sentTo(box) {
			place[e.call.B] = count // the values are unlike
			count++
		}
	}
	var got []int
	inOrder := func(values []int) {
		for i, v := range values {
			at, ok := place[v]
			if !ok || i > 0 && place[values[i-1]] >= at {
				t.Fatalf("P6.6: %+v: box %d: taken %v", x, box, values)
			}
		}
		got = append(got, values...)
	}
	for _, e := range all {
		if v, ok := e.takenFrom(box); ok {
			inOrder([]int{v})
		}
		if e.call.Kind == 5 && e.call.A == box {
			inOrder(e.answer.Ints)
		}
	}
	inOrder(left)
	slices.Sort(got)
	if once := slices.Compact(slices.Clone(got)); len(once) != len(got) || open == 0 && len(got) != count {
		t.Fatalf("P6.6: %+v: box %d: %d were sent, taken and left %v", x, box, count, got)
	}
}

// checkClosed holds P6.7 against a run without Drains.
func checkClosed(t *testing.T, x mixed, all []ended, box int) {
	t.Helper()
	holds, closed := 0, false
	for _, e := range all {
		switch {
		case e.sentTo(box):
			holds++
			if closed {
				t.Fatalf("P6.7: %+v: box %d: a Send behind its Close, step %d", x, box, e.answer.End)
			}
		case e.call.Kind == 3 && e.call.A == box:
			if closed != (e.answer.Err == api.ErrPostClosed) {
				t.Fatalf("P6.7: %+v: box %d: Close, step %d: %v", x, box, e.answer.End, e.answer.Err)
			}
			closed = true
		case e.call.Kind == 2 && e.call.A == box && e.answer.Err != api.OK:
			if never := holds == 0 && closed; never != (e.answer.Err == api.ErrPostClosed) {
				t.Fatalf("P6.7: %+v: box %d: Take, step %d: %v", x, box, e.answer.End, e.answer.Err)
			}
		}
		if _, ok := e.takenFrom(box); ok {
			holds--
		}
		if holds < 0 || holds > x.rooms[box] {
			t.Fatalf("P6.7: %+v: box %d holds %d at step %d", x, box, holds, e.answer.End)
		}
	}
}

// check holds what the calls are for against a Play.
func check(t *testing.T, x mixed) {
	t.Helper()
	drains := false
	for k, calls := range x.c.Work {
		for i := range calls {
			drains = drains || calls[i].Kind == 5
			if calls[i].Kind == 1 {
				calls[i].B = 1000*k + i
			}
		}
	}
	run, left, err := post.Play(x.rooms, x.c)
	if err != api.OK || len(left) != len(x.rooms) {
		t.Fatalf("P6.5: %+v: %v, %v", x, left, err)
	}
	all := allEnded(x.c, run)
	for box := range x.rooms {
		checkDrained(t, x, all, len(run.Open), box, left[box])
		if !drains {
			checkOrder(t, x, all, box, left[box])
			checkClosed(t, x, all, box)
		}
	}
}

func TestUsesInMixedRuns(t *testing.T) {
	mixedPlays(2500, false, func(x mixed) { check(t, x) })
	mixedPlays(5000, false, func(x mixed) {
		for _, calls := range x.c.Work {
			for i := range calls {
				if calls[i].Kind == 5 {
					calls[i].Kind = 2
				}
			}
		}
		check(t, x)
	})
}

func TestUsesInEveryOrder(t *testing.T) {
	for _, calls := range [][][]api.Call{
		{{send(0, 0), send(0, 0), take(0)}, {take(0), send(0, 0)}, {take(0), take(0)}},
		{{send(0, 0), closeBox(0), take(0)}, {send(0, 0), take(0)}, {send(0, 0), closeBox(0)}},
		{{send(0, 0), send(1, 0)}, {first(0, 1), first(1, 0)}, {send(1, 0), take(0), closeBox(1)}},
		{{send(0, 0), send(0, 0)}, {drain(0)}, {send(0, 0), take(0)}},
		{{send(0, 0), closeBox(0)}, {drain(0)}, {first(1, 0), send(1, 0)}},
	} {
		for _, rooms := range [][]int{{1, 1}, {2, 1}, {3, 3}} {
			orders(3, 7, func(turns []int) {
				check(t, mixed{rooms, api.Case{Work: calls, Turns: turns}})
			})
			orders(3, 5, func(turns []int) {
				check(t, mixed{rooms, api.Case{Work: calls, Turns: turns, Halt: []int{2, 0, 1}}})
			})
		}
	}
}

// loose does f by so many workers, without turns.
func loose(t *testing.T, workers int, f func(w *crew.Worker) []int) [][]int {
	t.Helper()
	var c api.Case
	for range workers {
		c.Work = append(c.Work, []api.Call{{}})
	}
	answers, err := crew.Loose(c, does(func(w *crew.Worker, _ api.Call) api.Answer { return api.Answer{Ints: f(w)} }))
	if err != api.OK || len(answers) != workers {
		t.Fatalf("Loose: %v, %v", answers, err)
	}
	var told [][]int
	for _, list := range answers {
		if len(list) != 1 || list[0].Err != api.OK {
			t.Fatalf("Loose: %v", list)
		}
		told = append(told, list[0].Ints)
	}
	return told
}

const often = 2000

// sendAll sends often values of a worker's own, each till there is room for it.
func sendAll(w *crew.Worker, b *post.Box) {
	for i := range often {
		for b.Send(w, often*w.Number()+i) != api.OK {
			runtime.Gosched()
		}
	}
}

// takers: the ways to take what comes from boxes till all of them are closed.
func takers() map[string]func(w *crew.Worker, l []*post.Box) []int {
	return map[string]func(w *crew.Worker, l []*post.Box) []int{
		"Take": func(w *crew.Worker, l []*post.Box) []int {
			var got []int
			for len(l) > 0 {
				v, err := l[0].Take(w)
				switch err {
				case api.OK:
					got = append(got, v)
				case api.ErrPostEmpty:
					runtime.Gosched()
				default:
					l = l[1:]
				}
			}
			return got
		},
		"Drain": func(w *crew.Worker, l []*post.Box) []int {
			var got []int
			for len(l) > 0 {
				v, err := l[0].Take(w)
				switch err {
				case api.OK:
					got = append(append(got, v), l[0].Drain(w)...)
				case api.ErrPostEmpty:
					runtime.Gosched()
				default:
					l = l[1:]
				}
			}
			return got
		},
		"First": func(w *crew.Worker, l []*post.Box) []int {
			var got []int
			for {
				_, v, err := post.First(w, l...)
				switch err {
				case api.OK:
					got = append(got, v)
				case api.ErrPostEmpty:
					runtime.Gosched()
				default:
					return got
				}
			}
		},
	}
}

// inTurn tells whether of each sender's values the later ones come behind the earlier ones.
func inTurn(list []int) bool {
	last := map[int]int{}
	for _, v := range list {
		if was, ok := last[v/often]; ok && was >= v {
			return false
		}
		last[v/often] = v
	}
	return true
}

// Workers without turns lose nothing: four send into one box, three take, and one closes it when all was sent.
func TestLooseBox(t *testing.T) {
	for name, taker := range takers() {
		for _, room := range []int{1, 3, 64} {
			b := newBox(t, room)
			sent := newBox(t, 4)
			told := loose(t, 8, func(w *crew.Worker) []int {
				switch {
				case w.Number() < 4:
					sendAll(w, b)
					sent.Send(w, 1)
					return nil
				case w.Number() < 7:
					return taker(w, []*post.Box{b})
				}
				var odd []int
				for sent.Len(w) < 4 {
					if n := b.Len(w); n < 0 || n > room {
						odd = append(odd, n)
					}
					runtime.Gosched()
				}
				b.Close(w)
				return odd
			})
			if len(told[7]) > 0 {
				t.Errorf("P6.7: a box of room %d held %v", room, told[7])
			}
			for k := 4; k < 7; k++ {
				if !inTurn(told[k]) {
					t.Errorf("P6.6: %s, room %d: worker %d: one overtook another one", name, room, k)
				}
			}
			all := slices.Concat(told[4:7]...)
			slices.Sort(all)
			if !slices.Equal(all, rising(0, 4*often)) {
				t.Errorf("P6.6: %s, room %d: of %d values came %d", name, room, 4*often, len(all))
			}
		}
	}
}

// Two Firsts that go through the same boxes in unlike orders don't get in each other's way.
func TestLooseFirst(t *testing.T) {
	x := newBoxes(t, []int{1, 3, 64, 2})
	told := loose(t, 8, func(w *crew.Worker) []int {
		l := slices.Clone(x)
		switch k := w.Number(); {
		case k < 4:
			sendAll(w, l[k])
			l[k].Close(w)
			return nil
		case k%2 == 1:
			slices.Reverse(l)
		}
		l = append(l, nil, l[w.Number()%4])
		return takers()["First"](w, l)
	})
	all := slices.Concat(told[4:]...)
	slices.Sort(all)
	if !slices.Equal(all, rising(0, 4*often)) {
		t.Errorf("P6.6: of %d values came %d", 4*often, len(all))
	}
	for k, list := range told[4:] {
		if !inTurn(list) {
			t.Errorf("P6.6: worker %d: one overtook another one", k+4)
		}
	}
	if !slices.Equal(slices.Concat(told[:4]...), nil) {
		t.Errorf("P6.6: who sends took %v", told[:4])
	}
}

// Of many that close a box one does; behind what it tells nobody sends.
func TestLooseClose(t *testing.T) {
	for round := range 300 {
		b, done := newBox(t, 64), newBox(t, 1)
		told := loose(t, 8, func(w *crew.Worker) []int {
			sent, late := 0, 0
			for i := range 6 {
				was := done.Len(w)
				if b.Send(w, 100*w.Number()+i) == api.OK {
					sent++
					late += was
				}
			}
			closed := 0
			if w.Number() > 3 && b.Close(w) == api.OK {
				closed = 1
				done.Send(w, 1)
			}
			if w.Number() > 3 && b.Send(w, -1) != api.ErrPostClosed {
				late++
			}
			return []int{sent, late, closed}
		})
		sent, late, closed := 0, 0, 0
		for _, list := range told {
			sent, late, closed = sent+list[0], late+list[1], closed+list[2]
		}
		if late > 0 || closed != 1 || b.Len(nil) != sent {
			t.Fatalf("P6.7: round %d: %d sent behind the Close, %d closed it, %d sent, it holds %d", round, late, closed, sent, b.Len(nil))
		}
	}
}

// farApart lays nil boxes between two, so that much may come to pass while First goes from the one to the other.
func farApart(a, b *post.Box) []*post.Box {
	return append(append([]*post.Box{a}, make([]*post.Box, 200)...), b)
}

// besideFirst asks First very often, while another worker does f for 0, 1, .. on and on: look is told what First answers; the list is what f told.
func besideFirst(t *testing.T, l []*post.Box, f func(w *crew.Worker, i int) bool, look func(w *crew.Worker, place, v int, err api.Errno)) []int {
	t.Helper()
	done := newBox(t, 1)
	told := loose(t, 2, func(w *crew.Worker) []int {
		var list []int
		if w.Number() == 0 {
			for i := 0; ; i++ {
				if _, err := done.Take(w); err == api.ErrPostClosed {
					return list
				}
				if f(w, i) {
					list = append(list, i)
				}
			}
		}
		for range 20 * often {
			place, v, err := post.First(w, l...)
			look(w, place, v, err)
		}
		done.Close(w)
		return nil
	})
	return told[0]
}

// What First tells is one moment's: into the second box comes a value only while the first one holds one, unless First took that.
func TestFirstIsOneMoment(t *testing.T) {
	a, b := newBox(t, 1), newBox(t, 1)
	last, faults := -1, 0
	besideFirst(t, farApart(a, b), func(w *crew.Worker, i int) bool {
		a.Send(w, i)
		b.Send(w, i)
		b.Take(w)
		a.Take(w)
		return false
	}, func(_ *crew.Worker, place, v int, err api.Errno) {
		switch {
		case err == api.OK && place == 0:
			last = v
		case err == api.OK && v != last:
			faults++
		}
	})
	if faults > 0 {
		t.Errorf("P6.2: %d values were taken while a box ahead held one", faults)
	}
}

// What First takes nobody was ahead of: a value that comes forward behind a Send into a box ahead isn't First's, as long as what was sent there stays.
func TestFirstTakesAtOneMoment(t *testing.T) {
	a, b := newBox(t, 1), newBox(t, 2)
	last, odd := -1, []int(nil) // odd: of which the second value was taken without what a held
	behind := besideFirst(t, farApart(a, b), func(w *crew.Worker, i int) bool {
		b.Send(w, 2*i)
		b.Send(w, 2*i+1)
		a.Send(w, i)
		v, err := b.Take(w)
		b.Take(w)
		a.Take(w)
		return err == api.OK && v == 2*i
	}, func(_ *crew.Worker, place, v int, err api.Errno) {
		switch {
		case err == api.OK && place == 0:
			last = v
		case err == api.OK && v%2 == 1 && last != v/2:
			odd = append(odd, v/2)
		}
	})
	for _, i := range odd {
		if _, found := slices.BinarySearch(behind, i); found {
			t.Fatalf("P6.2: round %d: the second value was taken while a box ahead held one", i)
		}
	}
}

// There is always a value in one of the boxes when First is asked: it comes into the one ahead of going from the other.
func TestFirstSeesWhatMoves(t *testing.T) {
	a, b := newBox(t, 64), newBox(t, 64)
	a.Send(nil, 1)
	faults := 0
	besideFirst(t, farApart(a, b), func(w *crew.Worker, _ int) bool {
		b.Send(w, 2)
		a.Take(w)
		a.Send(w, 1)
		b.Take(w)
		if a.Len(w)+b.Len(w) > 3 {
			a.Take(w)
		}
		return false
	}, func(w *crew.Worker, _, _ int, err api.Errno) {
		if err != api.OK {
			faults++
			return
		}
		a.Send(w, 3)
	})
	if faults > 0 {
		t.Errorf("P6.2: %d times First found nothing", faults)
	}
}

// The one box is closed ahead of what the other one holds going: so there is never a moment without a value at which one is open.
func TestFirstSeesACloseAsOneMoment(t *testing.T) {
	for round := range 4 * often {
		a, b := newBox(t, 1), newBox(t, 1)
		b.Send(nil, 5)
		b.Close(nil)
		told := loose(t, 2, func(w *crew.Worker) []int {
			if w.Number() == 0 {
				a.Close(w)
				b.Take(w)
				return nil
			}
			place, v, err := post.First(w, farApart(a, b)...)
			return []int{place, v, int(err)}
		})
		if l := told[1]; !slices.Equal(l, []int{201, 5, 0}) && !slices.Equal(l, []int{0, 0, int(api.ErrPostClosed)}) {
			t.Fatalf("P6.2: round %d: First: %v", round, l)
		}
	}
}
