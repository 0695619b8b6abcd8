package crew

import (
	"sync"

	"skein/api"
)

// Loose does a case's calls without turns.
func Loose(c api.Case, d Does) ([][]api.Answer, api.Errno) {
	if err := Check(c); err != api.OK {
		return nil, err
	}
	answers := make([][]api.Answer, len(c.Work))
	work := make([][]api.Call, len(c.Work))
	for number, calls := range c.Work {
		work[number] = ownCalls(calls) // ahead of all workers: none of them reads what was handed in
	}
	var all sync.WaitGroup
	for number, calls := range work {
		all.Add(1)
		go func() {
			defer all.Done()
			answers[number] = rush(&Worker{number: number}, calls, d)
		}()
	}
	all.Wait()
	return answers, api.OK
}

// rush does a worker's calls, one behind the other; one that panics is the last one.
func rush(w *Worker, calls []api.Call, d Does) (answers []api.Answer) {
	defer func() {
		recover()
		if len(answers) < len(calls) {
			answers = append(answers, api.Answer{Err: api.ErrCrewFell})
		}
	}()
	for _, call := range calls {
		answers = append(answers, ownAnswer(d.Do(w, call)))
	}
	return answers
}
