package crew

import (
	"sync"

	"skein/api"
	"skein/turn"
)

// book: what a run knows of a worker.
type book struct {
	pace       *pace
	left       int // calls that haven't ended
	halt       int // below 1: it isn't halted
	steps      int
	begin, own int // of the call that it is in the midst of; own 0: of none
	fell       bool
	answers    []api.Answer
}

// round: a run that is under way.
type round struct {
	books   []*book
	arrived chan arrival
	all     sync.WaitGroup
	steps   int
}

// Run does a case, a line at a time.
func Run(c api.Case, d Does) (api.Run, api.Errno) {
	if err := Check(c); err != api.OK {
		return api.Run{}, err
	}
	r := &round{arrived: make(chan arrival)}
	for number, calls := range c.Work {
		r.hire(number, ownCalls(calls), haltOf(c.Halt, number), d)
	}
	r.giveTurns(turn.New(c.Turns), stepsOf(c.Until))
	cut := r.someReady()
	r.letGo()
	r.all.Wait()
	return r.tell(cut), api.OK
}

// haltOf tells how many steps a worker does; below 1: as many as it gets.
func haltOf(halt []int, number int) int {
	if number < len(halt) {
		return halt[number]
	}
	return 0
}

func stepsOf(until int) int {
	if until == 0 {
		return api.MaxSteps
	}
	return until
}

// hire begins a worker's goroutine, which waits for its first turn.
func (r *round) hire(number int, calls []api.Call, halt int, d Does) {
	p := &pace{turns: make(chan struct{}), over: make(chan struct{}), arrived: r.arrived}
	r.books = append(r.books, &book{pace: p, left: len(calls), halt: halt})
	r.all.Add(1)
	go func() {
		defer r.all.Done()
		p.work(&Worker{number: number, pace: p}, calls, d)
	}()
}

// giveTurns gives one turn behind the other, till nobody is ready or there were so many steps.
func (r *round) giveTurns(order *turn.Order, until int) {
	ready := make([]bool, len(r.books))
	for r.steps < until {
		for number, b := range r.books {
			ready[number] = b.ready()
		}
		number := order.Pick(ready)
		if number < 0 {
			return
		}
		r.step(r.books[number])
	}
}

// step gives a worker a turn and waits till its line is done: so no two lines are done at once.
func (r *round) step(b *book) {
	r.steps++
	b.steps++
	if b.own == 0 {
		b.begin = r.steps
	}
	b.own++
	b.pace.turns <- struct{}{}
	a := <-r.arrived
	if a.leaves {
		b.fell = true
		b.end(api.Answer{Err: api.ErrCrewFell}, r.steps)
	} else if a.ended {
		b.end(a.answer, r.steps)
	}
}

// letGo lets go who waits for a turn still, one behind the other: what their calls defer isn't done at once either.
func (r *round) letGo() {
	for _, b := range r.books {
		if b.left > 0 && !b.fell {
			close(b.pace.over)
			<-r.arrived
		}
	}
}

func (r *round) someReady() bool {
	for _, b := range r.books {
		if b.ready() {
			return true
		}
	}
	return false
}

func (r *round) tell(cut bool) api.Run {
	told := api.Run{Steps: r.steps, Cut: cut}
	for number, b := range r.books {
		told.Answers = append(told.Answers, b.answers)
		if b.own > 0 {
			told.Open = append(told.Open, api.Open{Worker: number, Begin: b.begin, Own: b.own})
		}
	}
	return told
}

func (b *book) ready() bool {
	halted := b.halt > 0 && b.steps >= b.halt
	return b.left > 0 && !halted && !b.fell
}

// end books the answer of the call that the worker was in the midst of.
func (b *book) end(a api.Answer, step int) {
	a.Begin, a.End, a.Own = b.begin, step, b.own
	b.answers = append(b.answers, a)
	b.left--
	b.own = 0
}
