package script

import (
	"slices"

	"skein/api"
)

// reader: what was read so far.
type reader struct {
	script     api.Script
	deeds      map[string]deed // of the words with which the next line may begin
	wants      bool            // there must be a further line: the first one, or a repeat's end
	untilStood bool
	times      int        // of the repeat that has no end yet; 0: there is none
	body       []api.Call // what is to be repeated
}

func newReader() *reader { return &reader{deeds: atFirst(), wants: true} }

// read reads a line.
func (r *reader) read(text string) api.Errno {
	l := newLine(text)
	if l.first == "" {
		return api.OK
	}
	does, ok := r.deeds[l.first]
	if !ok {
		return api.ErrScriptWord
	}
	does(r, l)
	return l.err
}

// setup reads the first line.
func (r *reader) setup(l *line) {
	s := &r.script.Setup
	s.Parts = l.number()
	s.Workers = l.named("workers")
	s.Slots = l.named("slots")
	s.Leases = l.named("leases")
	if l.more() {
		s.Fails = l.named("fails")
	}
	l.end()
	r.deeds, r.wants = further(), false
}

func (r *reader) source(l *line) {
	s := &r.script.Setup
	s.Source = append(s.Source, l.pairs()...)
	l.atMost(len(s.Source), api.MaxSource)
}

func (r *reader) worker(l *line) {
	l.end()
	c := &r.script.Case
	c.Work = append(c.Work, nil)
	l.atMost(len(c.Work), api.MaxWorkers)
}

func (r *reader) turns(l *line) {
	c := &r.script.Case
	c.Turns = append(c.Turns, l.numbers()...)
	l.atMost(len(c.Turns), api.MaxTurns)
}

func (r *reader) halt(l *line) {
	c := &r.script.Case
	c.Halt = append(c.Halt, l.numbers()...)
	l.atMost(len(c.Halt), api.MaxTurns)
}

func (r *reader) until(l *line) {
	if r.untilStood {
		l.fault(api.ErrScriptWord)
	}
	r.untilStood = true
	r.script.Case.Until = l.number()
	l.end()
}

func (r *reader) repeat(l *line) {
	r.needWorker(l)
	r.times = l.numberFrom(1, api.MaxCalls)
	l.end()
	r.deeds, r.wants = inRepeat(), true
}

// end lays what was to be repeated.
func (r *reader) end(l *line) {
	l.end()
	l.atMost(r.calls()+r.times*len(r.body), api.MaxCalls)
	if l.err != api.OK {
		return
	}
	for range r.times {
		for _, c := range r.body {
			c.Pairs = slices.Clone(c.Pairs) // no two calls share a list
			r.add(c)
		}
	}
	r.times, r.body = 0, nil
	r.deeds, r.wants = further(), false
}

func (r *reader) call(l *line) {
	r.needWorker(l)
	c := readCall(l)
	l.atMost(r.calls()+len(r.body)+1, api.MaxCalls)
	switch {
	case l.err != api.OK:
	case r.times > 0:
		r.body = append(r.body, c)
	default:
		r.add(c)
	}
}

// needWorker: without a worker ahead the line's first word can't stand, whatever follows it.
func (r *reader) needWorker(l *line) {
	if len(r.script.Case.Work) == 0 {
		l.fault(api.ErrScriptWord)
	}
}

// calls tells how many calls the last worker has, those of a repeat without an end left out.
func (r *reader) calls() int {
	work := r.script.Case.Work
	if len(work) == 0 {
		return 0
	}
	return len(work[len(work)-1])
}

// add gives the last worker a call more.
func (r *reader) add(c api.Call) {
	work := r.script.Case.Work
	last := len(work) - 1
	work[last] = append(work[last], c)
}
