package joint_test

import (
	"slices"
	"testing"

	"skein/api"
	"skein/joint"
)

// The chapter's first example, step by step.
func TestFirstExample(t *testing.T) {
	x, err := joint.New([]int{5, 7})
	if x == nil || err != api.OK {
		t.Fatal(x, err)
	}
	if ok, err := x.Move(nil, 0, 1, 2); !ok || err != api.OK {
		t.Errorf("the first example: Move: %v, %v", ok, err)
	}
	wantValues(t, "the first example", x, []int{3, 9})
	if ok, err := x.Change(nil, []api.Entry{to(0, 3, 1), to(1, 9, 1)}); !ok || err != api.OK {
		t.Errorf("the first example: Change: %v, %v", ok, err)
	}
	if ok, err := x.Change(nil, []api.Entry{to(0, 3, 4)}); ok || err != api.ErrJointOther {
		t.Errorf("the first example: Change: %v, %v", ok, err)
	}
	if ok, err := x.Move(nil, 0, 1, 2); ok || err != api.ErrJointLess {
		t.Errorf("the first example: Move: %v, %v", ok, err)
	}
	if ok, err := x.Change(nil, []api.Entry{to(0, 1, 2), to(0, 1, 3)}); ok || err != api.ErrJointCell {
		t.Errorf("the first example: Change: %v, %v", ok, err)
	}
	wantValues(t, "the first example", x, []int{1, 1})
	for k := range 8 {
		wantPlay(t, "the first example", []int{5, 7}, by(k, move(0, 1, 2), look(), change(to(0, 3, 1), to(1, 9, 1)), change(to(0, 3, 4)), move(0, 1, 2), change(to(0, 1, 2), to(0, 1, 3))), steps(k,
			own(10, well()), own(10, shows(3, 9)), own(10, well()), own(1, failed(api.ErrJointOther)), own(2, failed(api.ErrJointLess)), own(1, failed(api.ErrJointCell)),
		), []int{1, 1})
	}
}

// The second one: worker 0 halts behind its first line 2; worker 1 finds -1, helps, and tells what is there behind the Move.
func TestSecondExample(t *testing.T) {
	for n := 1; n <= 5; n++ {
		first := []int{5, 7}
		c := api.Case{Work: [][]api.Call{{move(0, 1, n)}, {read(0)}}, Turns: make([]int, 4), Halt: []int{4}}
		wantPlay(t, "the second example", first, c, api.Run{
			Answers: [][]api.Answer{nil, {{Begin: 5, End: 15, Own: 11, Ok: true, N: 5 - n}}}, Open: []api.Open{{Worker: 0, Begin: 1, Own: 4}}, Steps: 15,
		}, []int{5 - n, 7 + n})
		c.Until = 4
		b, _ := wantNamed(t, "the second example", c, first)
		if got := b.all[0].Words(); !slices.Equal(got, []int{-1, packed(7, 0)}) {
			t.Errorf("the second example: worker 1 finds %v", got)
		}
	}
}
