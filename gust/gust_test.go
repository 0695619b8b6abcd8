package gust_test

import (
	"fmt"
	"slices"
	"sync/atomic"
	"testing"
	"time"

	"skein/api"
	"skein/crew"
	"skein/gust"
	"skein/judge"
	"skein/tally"
)

// P21.3, P21.4: what one worker does, call by call, by hand: two parts, two rounds, two keys; v is 3 and 10, then 34 and 41.
func TestOneWorkerByHand(t *testing.T) {
	b := blow(t, plan(2, 1, 2, 2, 3), slots, nil)
	var names []string
	for _, c := range b.logs[0] {
		names = append(names, fmt.Sprint(c.name, " ", c.a, " ", c.b))
	}
	round := func(first, second int) []string {
		return []string{
			fmt.Sprint("Put 0 ", first), fmt.Sprint("Put 2147483648 ", second), "Get 0 0",
			"Snap 0 0", "View 0 0", "View 1 0", "Free 0 0",
			"Trim 0 0", "Trim 1 0", "Advance 0 0", "Collect 0 0",
		}
	}
	want := append(round(3, 10), round(34, 41)...)
	// Of the first round the versions 1 wait, of the second one the versions 2 and their leaves: these go with the third Advance, the others behind the second one.
	want = append(want, "Advance 0 0", "Collect 0 0")
	if !slices.Equal(names, want) {
		t.Errorf("P21.3: %v, want %v", names, want)
	}
	at := func(begin int, e api.Event) api.Event {
		e.Begin, e.End = begin, begin+1
		return e
	}
	half := 1 << 31
	events := []api.Event{
		at(1, api.Event{Kind: api.Write, Key: 0, Number: 2, Has: true, New: 3}),
		at(3, api.Event{Kind: api.Write, Part: 1, Key: half, Number: 2, Has: true, New: 10}),
		at(5, api.Event{Kind: api.Read, Key: 0, Number: 2, Had: true, Value: 3}),
		at(7, api.Event{Kind: api.Snapshot, Numbers: []int{2, 2}}),
		at(9, api.Event{Kind: api.Write, Key: 0, Number: 3, Had: true, Value: 3, Has: true, New: 34}),
		at(11, api.Event{Kind: api.Write, Part: 1, Key: half, Number: 3, Had: true, Value: 10, Has: true, New: 41}),
		at(13, api.Event{Kind: api.Read, Key: 0, Number: 3, Had: true, Value: 34}),
		at(15, api.Event{Kind: api.Snapshot, Numbers: []int{3, 3}}),
	}
	if is, want := fmt.Sprintf("%+v", b.events), fmt.Sprintf("%+v", events); is != want {
		t.Errorf("P21.4: %v, want %v", is, want)
	}
	b.check(t)
	b.checkWhole(t)
}

// P21.3, P21.4: Drops: of a key that isn't there (Same), and of one that is.
func TestDropsByHand(t *testing.T) {
	// v is 4, 35, 66, 97, 128: a Drop of nothing, three Puts, a Drop.
	b := blow(t, plan(1, 1, 5, 1, 4), slots, nil)
	var kinds []int
	for _, e := range b.events {
		if e.Kind == api.Write || e.Kind == api.Same {
			kinds = append(kinds, e.Kind)
		}
	}
	if want := []int{api.Same, api.Write, api.Write, api.Write, api.Write}; !slices.Equal(kinds, want) {
		t.Errorf("P21.4: %v, want %v", kinds, want)
	}
	if e := b.events[0]; e.Number != 1 || e.Had || e.Has || e.New != 0 || e.Value != 0 {
		t.Errorf("P21.4: a Drop of nothing: %+v", e)
	}
	if e := b.events[12]; e.Number != 5 || !e.Had || e.Value != 97 || e.Has || e.New != 0 {
		t.Errorf("P21.4: a Drop: %+v", e)
	}
	b.check(t)
	b.checkWhole(t)
}

// plans: of all sizes; at MaxEvents, too.
func plans() []gust.Plan {
	list := []gust.Plan{plan(1, 1, 0, 1, 0), plan(64, 8, 0, 16, 0), plan(1, 1, 1, 1, 0), plan(64, 1, 1, 1, 0), plan(1, 8, 1, 1, 0), plan(3, 8, 20, 1, 7)}
	for _, parts := range []int{1, 2, 3, 64} {
		for _, workers := range []int{1, 2, 3, 8} {
			list = append(list, plan(parts, workers, 3, 5, -parts*workers), plan(parts, workers, 7, 16, parts+workers), plan(parts, workers, 20, 3, 970+workers))
		}
	}
	return append(list, plan(64, 8, 8, 14, 3), plan(1, 8, 8, 14, 3), plan(5, 8, 16, 6, 1), plan(1, 4, 16, 14, 2), plan(1, 1, 20, 16, 9))
}

// P21.3, P21.4, P32.9: whatever the order, each worker does what the chapter says, and each call is laid down.
func TestFreely(t *testing.T) {
	var n found
	for _, p := range plans() {
		b := blow(t, p, slots, nil)
		n.add(b.check(t))
		b.checkWhole(t)
	}
	if n.waits == 0 {
		t.Errorf("%+v", n)
	}
}

// P21.3: in few slots the pool is full often: room is made, and the call done again; all is as it must be in the end.
func TestFewSlots(t *testing.T) {
	var n found
	for range 10 {
		for _, c := range []struct {
			p    gust.Plan
			room int
		}{
			{plan(1, 1, 20, 16, 3), 60}, {plan(1, 2, 10, 8, 3), 60}, {plan(1, 4, 8, 4, 1), 80}, {plan(2, 8, 7, 4, 1), 150},
		} {
			b := blow(t, c.p, c.room, nil)
			n.add(b.check(t))
			b.checkWhole(t)
		}
	}
	if n.full == 0 {
		t.Errorf("%+v", n)
	}
}

// P21.3: what is refused by ErrPoolFull, ErrLoadBusy, at every place, once and several times.
func TestRefused(t *testing.T) {
	for _, p := range []gust.Plan{plan(1, 1, 2, 3, 3), plan(3, 1, 3, 2, 2), plan(2, 3, 3, 3, 1)} {
		for _, name := range []string{"Put", "Drop", "Get", "Snap", "View"} {
			for _, err := range []api.Errno{full, busy} {
				for place := range 6 {
					for _, often := range []int{1, 2, 5} {
						b := blow(t, p, slots, func(c call, nth int) api.Errno {
							if c.name == name && nth >= place && nth < place+often {
								return err
							}
							return api.OK
						})
						n := b.check(t)
						b.checkWhole(t)
						if place == 0 && name != "Drop" && (err == full && n.full < often*p.Workers || err == busy && n.busy < often*p.Workers) {
							t.Fatalf("P21.3: %+v: %s refused %d times by %v: %+v", p, name, often, err, n)
						}
					}
				}
			}
		}
	}
}

// Both errors by turns, of many calls.
func TestRefusedByTurns(t *testing.T) {
	var n found
	for _, p := range []gust.Plan{plan(1, 1, 4, 3, 3), plan(3, 8, 5, 4, 2), plan(64, 2, 3, 16, 1), plan(2, 8, 8, 14, 5)} {
		for step := 1; step < 5; step++ {
			b := blow(t, p, slots, func(c call, nth int) api.Errno {
				switch {
				case c.name == "Free" || c.name == "Trim" || c.name == "Advance" || c.name == "Collect":
					return api.OK
				case nth%(step+1) == 0:
					return full
				case nth%(step+2) == 0:
					return busy
				}
				return api.OK
			})
			n.add(b.check(t))
			b.checkWhole(t)
		}
	}
	if n.full == 0 || n.busy == 0 {
		t.Errorf("%+v", n)
	}
}

// A call that answers another error is no event, and isn't done again; a View's is told to the judge as a version that can't be.
func TestOtherErrors(t *testing.T) {
	p := plan(2, 2, 3, 3, 1)
	all := p.Workers * p.Rounds * (p.Keys + 2)
	for _, c := range []struct {
		name   string
		events int
	}{{"Put", all - p.Workers}, {"Get", all - p.Workers}, {"Snap", all - p.Workers}, {"View", all}, {"Trim", all}, {"Advance", all}} {
		b := blow(t, p, slots, func(d call, nth int) api.Errno {
			if d.worker != alone && d.name == c.name && nth == 0 {
				return other
			}
			return api.OK
		})
		b.check(t)
		if len(b.events) != c.events {
			t.Errorf("P21.4: %s refused: %d events, want %d", c.name, len(b.events), c.events)
		}
		blames, _ := judge.Versions(make([][]api.Pair, p.Parts), b.events)
		if c.name == "View" && len(blames) != p.Workers {
			t.Errorf("P21.4: %s refused: %v", c.name, blames)
		}
	}
}

// stub: a map whose memory comes back slowly: a Trim lets so many handles wait, a Collect gives one back, each third time.
type stub struct {
	lets int
	gate func(w *crew.Worker)
	err  api.Errno
	done [api.MaxWorkers]int // by worker how many Collects it has done
}

func (s *stub) come(w *crew.Worker) (api.Told, api.Errno) {
	if s.gate != nil {
		s.gate(w)
	}
	return api.Told{Number: 2, New: true}, api.OK
}

func (s *stub) Get(w *crew.Worker, key int) (api.Told, api.Errno)        { return s.come(w) }
func (s *stub) Put(w *crew.Worker, key, value int) (api.Told, api.Errno) { return s.come(w) }
func (s *stub) Drop(w *crew.Worker, key int) (api.Told, api.Errno)       { return s.come(w) }
func (s *stub) Snap(w *crew.Worker) (api.Snap, api.Errno)                { return api.Snap{Stamp: 1}, api.OK }
func (s *stub) Free(w *crew.Worker, x api.Snap) api.Errno                { return api.OK }
func (s *stub) View(w *crew.Worker, x api.Snap, part int) (int, int, api.Errno) {
	return 0, part + 1, api.OK
}
func (s *stub) Trim(w *crew.Worker, part int) (int, api.Errno) { return s.lets, api.OK }
func (s *stub) Advance(w *crew.Worker) bool                    { return true }
func (s *stub) Collect(w *crew.Worker) (int, api.Errno) {
	k := w.Number()
	s.done[k]++
	if s.err != api.OK || s.done[k]%3 != 0 {
		return 0, s.err
	}
	return 1, api.OK
}

// P21.3: behind its last round a worker goes on till nothing of its waits; where nothing does it is at its end.
func TestTillNothingWaits(t *testing.T) {
	for _, lets := range []int{0, 1, 2, 7} {
		for _, p := range []gust.Plan{plan(1, 1, 1, 1, 3), plan(3, 2, 4, 2, 3), plan(2, 8, 2, 3, 3), plan(2, 8, 0, 3, 3)} {
			s, times := &stub{lets: lets}, tally.NewTicket(1)
			r := recording(s, times, nil)
			b := blown{p: p, events: gust.Blow(p, r, times), logs: r.logs}
			n := b.check(t)
			waits := lets * p.Parts * p.Rounds * 3 // so many Collects give all of it back
			if want := p.Workers * max(0, waits-p.Rounds); n.waits != want {
				t.Errorf("P21.3: %+v, %d by a Trim: %d Collects behind the last rounds, want %d", p, lets, n.waits, want)
			}
		}
	}
}

// Where Collect is refused nobody goes on for ever.
func TestCollectRefused(t *testing.T) {
	done := make(chan int, 1)
	go func() {
		done <- len(gust.Blow(plan(2, 8, 3, 2, 1), &stub{lets: 5, err: other}, tally.NewTicket(1)))
	}()
	select {
	case n := <-done:
		if n != 8*3*4 {
			t.Errorf("P21.4: %d events", n)
		}
	case <-time.After(time.Minute):
		t.Fatal("rule 1: it doesn't end")
	}
}

// P21.3: each worker is in a goroutine of its own: each goes on only when all have come.
func TestAllAtOnce(t *testing.T) {
	for workers := 1; workers <= 8; workers++ {
		var come [8]atomic.Int64
		p := plan(1, workers, 2, 2, 3)
		s := &stub{gate: func(w *crew.Worker) {
			come[w.Number()].Add(1)
			for until := time.Now().Add(time.Minute); time.Now().Before(until); time.Sleep(time.Microsecond) {
				all := 0
				for k := range workers {
					all += min(1, int(come[k].Load()))
				}
				if all == workers {
					return
				}
			}
			t.Error("P21.3: not all workers come")
		}}
		if l := gust.Blow(p, s, tally.NewTicket(1)); len(l) != workers*2*4 {
			t.Errorf("P21.4: %d events", len(l))
		}
		for k := range workers {
			if n := come[k].Load(); n != 2*3 {
				t.Errorf("P21.3: worker %d does %d calls", k, n)
			}
		}
	}
}

// P21.4: what is laid down is enough for the judge: a number, a value, a time that is told otherwise is blamed.
func TestSpoiltEvents(t *testing.T) {
	b := blow(t, plan(2, 2, 3, 3, 3), slots, nil)
	start := make([][]api.Pair, 2)
	spoilt := 0
	for at, e := range b.events {
		var ways []api.Event
		if e.Kind == api.Snapshot {
			less := e
			less.Numbers = []int{e.Numbers[0], 0}
			ways = append(ways, less)
		} else {
			number, value, had := e, e, e
			number.Number += 100
			value.Value += 1000
			had.Had = !had.Had
			ways = append(ways, number, value, had)
		}
		for _, x := range ways {
			l := slices.Clone(b.events)
			l[at] = x
			spoilt++
			if blames, err := judge.Versions(start, l); err != api.OK || len(blames) == 0 {
				t.Errorf("P21.4: %+v in the place of %+v: %v, %v", x, e, blames, err)
			}
		}
	}
	if spoilt == 0 {
		t.Error("nothing was spoilt")
	}
}
