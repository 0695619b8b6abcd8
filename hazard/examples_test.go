package hazard_test

import (
	"slices"
	"testing"

	"skein/api"
)

// The chapter's first example, step by step.
func TestFirstExample(t *testing.T) {
	h := []int{0, first(1), first(2)}
	c := work(
		[]api.Call{swap(0, 1), swap(0, 2), scan(), scan()},
		[]api.Call{protect(0, 0), read(0), clearOf(0)},
	)
	c.Turns = turns(0, 4, 1, 3, 0, 4, 0, 4, 1, 1, 1, 1, 0, 8)
	want := api.Run{Steps: 25, Answers: [][]api.Answer{
		{{Begin: 1, End: 4, Own: 4, N: h[1]}, {Begin: 8, End: 11, Own: 4, N: h[2]}, {Begin: 12, End: 15, Own: 4}, {Begin: 18, End: 25, Own: 8, N: 1}},
		{{Begin: 5, End: 7, Own: 3, N: h[1]}, {Begin: 16, End: 16, Own: 1, Ints: []int{1, -1, 0, 0}}, {Begin: 17, End: 17, Own: 1}},
	}}
	wantPlay(t, "the first example", shape{slots: 4, workers: 2, roots: 1}, c, want, [][]int{{3, 0}, {h[2]}, {0, 0}, {0, 0}, nil, nil})
	// Cut behind each step: what there is then.
	for until, rows := range map[int][][]int{
		7:  {{3, 0}, {h[1]}, {0, 0}, {h[1], 0}, nil, nil},
		11: {{2, 0}, {h[2]}, {0, 0}, {h[1], 0}, {h[1]}, nil},
		15: {{2, 0}, {h[2]}, {0, 0}, {h[1], 0}, {h[1]}, nil},
		17: {{2, 0}, {h[2]}, {0, 0}, {0, 0}, {h[1]}, nil},
		21: {{2, 0}, {h[2]}, {0, 0}, {0, 0}, nil, nil},
		25: {{3, 0}, {h[2]}, {0, 0}, {0, 0}, nil, nil},
	} {
		c.Until = until
		if _, left := wantModel(t, "the first example", shape{slots: 4, workers: 2, roots: 1}, c); !sameLists(left.rows(), rows) {
			t.Errorf("the first example, cut behind %d steps: %v, want %v", until, left.rows(), rows)
		}
	}
}

// A late store: what a Protect is about to name is given back meanwhile; it finds that at its next load, and goes round.
func TestLateStore(t *testing.T) {
	h := []int{0, first(1), first(2)}
	s := shape{slots: 4, workers: 2, roots: 1}
	c := work(
		[]api.Call{swap(0, 1), swap(0, 2), scan(), swap(0, 3), scan()},
		[]api.Call{protect(0, 0), read(0)},
	)
	c.Turns = turns(0, 4, 1, 1, 0, 4, 0, 8)
	ahead := len(c.Turns)
	for at, want := range [][]int{{h[1], 0}, {h[1], 0}, {h[2], 0}, {h[2], 0}} {
		c.Until = ahead + 1 + at
		c.Turns = append(c.Turns[:ahead], turns(1, 9)...)
		run, left := wantModel(t, "a late store", s, c)
		if got := left.racks[0].hazards[1]; !slices.Equal(got, want) || left.faults[0] != 0 || !slices.Equal(left.free[0], []int{1, 3, 4}) || run.Answers[0][2].N != 1 {
			t.Errorf("a late store, behind %d lines of it: %v, want %v: %+v", at, got, want, run)
		}
	}
	// It is protected: the next Scan keeps it.
	c.Until = 0
	c.Turns = append(c.Turns[:ahead], turns(1, 4, 0, 8, 1, 1)...)
	run, left := wantModel(t, "a late store", s, c)
	if a := run.Answers[1]; a[0].N != h[2] || a[0].Own != 5 || !sameAnswer(a[1], node(2, -2, 0, 0)) || run.Answers[0][4].N != 0 || !slices.Equal(left.racks[0].waits[0], []int{h[2]}) || left.faults[0] != 0 {
		t.Errorf("a late store: %+v, %+v", run, left)
	}
}
