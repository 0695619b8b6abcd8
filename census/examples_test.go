package census_test

import (
	"testing"

	"skein/api"
)

// The chapter's first example, step by step.
func TestFirstExample(t *testing.T) {
	first := []int{5, 7}
	calls := []api.Call{scan(), update(6), scan(), read(0), total()}
	wantPlay(t, "the first example", first, by(0, calls...), steps(0,
		own(4, sees(5, 7, 0, 0)), own(5, number(1)), own(4, sees(6, 7, 1, 0)), own(1, stood(6, 1)), own(4, number(13)),
	), api.Seen{Values: []int{6, 7}, Numbers: []int{1, 0}})
	wantPlay(t, "the first example", first, by(2, update(6), scan()), steps(2,
		own(1, failed(api.ErrCensusWorker)), own(4, sees(5, 7, 0, 0)),
	), api.Seen{Values: []int{5, 7}, Numbers: []int{0, 0}})
	c := newReal(t, first)
	for n, call := range calls {
		want := []api.Answer{sees(5, 7, 0, 0), number(1), sees(6, 7, 1, 0), stood(6, 1), number(13)}[n]
		if a := c.Do(nil, call); !sameAnswer(a, want) {
			t.Errorf("the first example, alone: call %d: %+v, want %+v", n, a, want)
		}
	}
	// Behind each line what all words hold: the Update's last line alone changes any.
	for until := 1; until <= 18; until++ {
		play := by(0, calls...)
		play.Until = until
		_, m := wantModel(t, "the first example, cut", first, play)
		want := api.Seen{Values: []int{5, 7}, Numbers: []int{0, 0}}
		if until >= 9 {
			want = api.Seen{Values: []int{6, 7}, Numbers: []int{1, 0}}
		}
		if got := momentOf(m.words).seen(); !sameSeen(got, want) {
			t.Errorf("the first example, cut behind %d steps: %v, want %v", until, got, want)
		}
	}
}

// The second one: a word moves twice, and what its worker saw is answered.
func TestSecondExample(t *testing.T) {
	c := stepwise(work([]api.Call{update(1), update(2)}, nil, []api.Call{scan()}), 2, 2, 0, 5, 2, 2, 0, 5, 2, 2)
	wantPlay(t, "the second example", []int{5, 7}, c, api.Run{Steps: 16, Cut: true, Answers: [][]api.Answer{
		{{Begin: 3, End: 7, Own: 5, Ok: true, N: 1}, {Begin: 10, End: 14, Own: 5, Ok: true, N: 2}}, nil,
		{{Begin: 1, End: 16, Own: 6, Ok: true, Ints: []int{1, 7, 1, 0}}},
	}}, api.Seen{Values: []int{2, 7}, Numbers: []int{2, 0}})
}
