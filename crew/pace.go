package crew

import "skein/api"

// arrival: what a worker tells when its line is done: it asks for another one of the same call, or its call has ended, or it leaves for good.
type arrival struct {
	ended, leaves bool
	answer        api.Answer
}

// letGo: by a panic with it a worker leaves that gets no more turns.
type letGo struct{}

// pace is what a worker of a run goes by; but for the channels it is the worker's own.
type pace struct {
	turns   chan struct{}  // its turns
	over    chan struct{}  // closed: it gets no more turns
	arrived chan<- arrival // one for all
	given   bool           // its call has begun with a turn that no Step has asked for yet
	gone    bool           // it gets no more turns
}

// step: the first line of a call has its turn already; each later one is asked for when the one ahead of it is done.
func (p *pace) step() {
	if p.gone {
		panic(letGo{}) // what its call defers may ask again
	}
	if p.given {
		p.given = false
		return
	}
	p.arrived <- arrival{}
	p.wait()
}

func (p *pace) wait() {
	select {
	case <-p.turns:
	case <-p.over:
		p.gone = true
		panic(letGo{})
	}
}

// work does a worker's calls. A call isn't begun ahead of its first turn, so whatever it does is done within its own lines.
func (p *pace) work(w *Worker, calls []api.Call, d Does) {
	defer func() {
		recover() // a call that panics ends its worker's work as well as one that is let go
		p.gone = true
		if len(calls) > 0 {
			p.arrived <- arrival{leaves: true}
		}
	}()
	for len(calls) > 0 {
		p.wait()
		p.given = true
		answer := d.Do(w, calls[0])
		if p.gone {
			return // its call caught the panic by which it was to leave
		}
		calls = calls[1:]
		p.arrived <- arrival{ended: true, answer: ownAnswer(answer)}
	}
}
