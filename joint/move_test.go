package joint_test

import (
	"slices"
	"testing"

	"skein/api"
)

// Each error of a Move, and which one is told where several would do: what can't be by one line, the others behind both loads.
func TestMoveRefuses(t *testing.T) {
	first := []int{5, 7, api.MaxIndex}
	refused := func(lines int, err api.Errno, c api.Call) {
		t.Helper()
		for _, k := range []int{0, 1, 7} {
			wantRefused(t, "P26.7", first, k, c, lines, err)
		}
	}
	for _, c := range noCells(3) {
		refused(1, api.ErrJointCell, move(c, 0, 1))
		refused(1, api.ErrJointCell, move(0, c, 1))
		refused(1, api.ErrJointCell, move(c, c, 1))
		refused(1, api.ErrJointCell, move(c, 0, 100))
	}
	for c := range 3 {
		refused(1, api.ErrJointCell, move(c, c, 0))
		refused(1, api.ErrJointCell, move(c, c, 1))
	}
	for _, n := range noValues {
		refused(1, api.ErrJointValue, move(0, 1, n))
		refused(1, api.ErrJointValue, move(1, 0, n))
		// Several would do.
		refused(1, api.ErrJointCell, move(3, 0, n))
		refused(1, api.ErrJointCell, move(0, -1, n))
		refused(1, api.ErrJointCell, move(1, 1, n))
		refused(1, api.ErrJointValue, move(0, 2, n))
	}
	for _, n := range []int{6, 7, 100, api.MaxIndex - 1, api.MaxIndex} {
		refused(2, api.ErrJointLess, move(0, 1, n))
		refused(2, api.ErrJointLess, move(0, 2, n)) // the other one would hold too much as well
	}
	for _, n := range []int{8, api.MaxIndex} {
		refused(2, api.ErrJointLess, move(1, 0, n))
		refused(2, api.ErrJointLess, move(1, 2, n))
	}
	for _, n := range []int{1, 4, 5} {
		refused(2, api.ErrJointValue, move(0, 2, n))
		refused(2, api.ErrJointValue, move(1, 2, n))
	}
	refused(2, api.ErrJointValue, move(2, 0, api.MaxIndex))
	refused(2, api.ErrJointValue, move(2, 0, api.MaxIndex-4))
	refused(2, api.ErrJointValue, move(2, 1, api.MaxIndex-6))
}

// A Move from above to below and from below to above: of nothing, of some, of all that is there, up to the greatest number.
func TestMove(t *testing.T) {
	const top = api.MaxIndex
	for _, x := range []struct {
		first       []int
		from, to, n int
		want        []int
	}{
		{[]int{5, 7}, 0, 1, 0, []int{5, 7}}, {[]int{5, 7}, 1, 0, 0, []int{5, 7}}, {[]int{0, 7}, 0, 1, 0, []int{0, 7}}, {[]int{0, top}, 0, 1, 0, []int{0, top}},
		{[]int{5, 7}, 0, 1, 2, []int{3, 9}}, {[]int{5, 7}, 1, 0, 2, []int{7, 5}},
		{[]int{5, 7}, 0, 1, 5, []int{0, 12}}, {[]int{5, 7}, 1, 0, 7, []int{12, 0}}, {[]int{0, top}, 1, 0, top, []int{top, 0}}, {[]int{top, 0}, 0, 1, top, []int{0, top}},
		{[]int{5, top - 5}, 0, 1, 5, []int{0, top}}, {[]int{top - 3, 5}, 1, 0, 3, []int{top, 2}}, {[]int{top, top - 1}, 0, 1, 1, []int{top - 1, top}},
		{firsts(5), 3, 1, 4, []int{10, 24, 30, 36, 50}}, {firsts(5), 4, 0, 50, []int{60, 20, 30, 40, 0}}, {firsts(5), 2, 3, 1, []int{10, 20, 29, 41, 50}},
	} {
		for _, k := range []int{0, 1, 7} {
			wantAlone(t, "P26.7", x.first, k, move(x.from, x.to, x.n), own(10, well()), x.want)
		}
	}
	values := firsts(64)
	values[63], values[0] = values[63]-600, values[0]+600
	wantAlone(t, "P26.7", firsts(64), 2, move(63, 0, 600), own(10, well()), values)
}

// The lesser cell is loaded first, and its descriptor comes into it first, whichever of them gives.
func TestMoveInTheOrderOfCells(t *testing.T) {
	for _, c := range []api.Call{move(0, 1, 2), move(1, 0, 2)} {
		// Between the two loads both cells are changed: of the first one loaded the word is old, of the other one new.
		other := []api.Call{change(to(0, 5, 15), to(1, 7, 17))}
		b, _ := wantNamed(t, "P26.7", stepwise(work([]api.Call{c}, other), 0, 1, 1, 10, 0, 5), []int{5, 7})
		if got := b.all[0].Words(); !slices.Equal(got, []int{packed(15, 1), packed(17, 1)}) {
			t.Errorf("P26.7: %+v: the words are %v", c, got)
		}
		b, _ = wantNamed(t, "P26.7", stepwise(work([]api.Call{c}, nil), 0, 4), []int{5, 7})
		if got := b.all[0].Words(); !slices.Equal(got, []int{under(0, 1), packed(7, 0)}) {
			t.Errorf("P26.7: %+v: the words are %v", c, got)
		}
	}
}

// A Move comes again when its cells are changed meanwhile, and finds then that there is too little, too much, or neither.
func TestMoveAgain(t *testing.T) {
	const top = api.MaxIndex
	for _, x := range []course{
		{"again", []int{5, 7}, [][]api.Call{{move(0, 1, 2)}, {change(to(1, 7, 17))}}, []int{0, 2, 1, 6, 0, 19},
			[][]api.Answer{{own(21, well())}, {own(6, well())}}, []int{packed(3, 1), packed(19, 2)}, []int{3, 19}},
		{"again, by its first cell", []int{5, 7}, [][]api.Call{{move(1, 0, 2)}, {change(to(0, 5, 4))}}, []int{0, 2, 1, 6, 0, 17},
			[][]api.Answer{{own(19, well())}, {own(6, well())}}, []int{packed(6, 2), packed(5, 1)}, []int{6, 5}},
		{"then it holds less", []int{5, 7}, [][]api.Call{{move(0, 1, 2)}, {move(0, 1, 4)}}, []int{0, 2, 1, 10, 0, 9},
			[][]api.Answer{{own(11, failed(api.ErrJointLess))}, {own(10, well())}}, []int{packed(1, 1), packed(11, 1)}, []int{1, 11}},
		{"then it would hold too much", []int{5, 7}, [][]api.Call{{move(0, 1, 2)}, {change(to(1, 7, top-1))}}, []int{0, 2, 1, 6, 0, 11},
			[][]api.Answer{{own(13, failed(api.ErrJointValue))}, {own(6, well())}}, []int{packed(5, 0), packed(top-1, 1)}, []int{5, top - 1}},
		{"between its loads what it finds changes, but not what it asks for", []int{5, 7}, [][]api.Call{{move(0, 1, 2)}, {change(to(1, 7, top-2))}}, []int{0, 1, 1, 6, 0, 9},
			[][]api.Answer{{own(10, well())}, {own(6, well())}}, []int{packed(3, 1), packed(top, 2)}, []int{3, top}},
		{"a Move of nothing comes in between", []int{5, 7}, [][]api.Call{{move(0, 1, 5)}, {move(1, 0, 0)}}, []int{0, 2, 1, 10, 0, 17},
			[][]api.Answer{{own(19, well())}, {own(10, well())}}, []int{packed(0, 2), packed(12, 2)}, []int{0, 12}},
	} {
		wantCourse(t, "P26.7: A again", x)
	}
}

func TestLook(t *testing.T) {
	for _, n := range []int{1, 2, 3, 8, 63, 64} {
		first := firsts(n)
		first[0], first[n-1] = 0, api.MaxIndex
		for _, k := range []int{0, 1, 7} {
			wantAlone(t, "P26.7", first, k, look(), own(4*n+2, shows(first...)), first)
		}
		// Each Look changes the tags of all cells, and nothing else.
		x := newReal(t, first).all[0]
		for i := 1; i <= 3; i++ {
			if got, err := x.Look(nil); err != api.OK || !slices.Equal(got, first) {
				t.Errorf("P26.7: Look: %v, %v", got, err)
			}
			var want []int
			for _, v := range first {
				want = append(want, packed(v, i))
			}
			if got := x.Words(); !slices.Equal(got, want) {
				t.Errorf("P26.7: behind %d Looks: %v, want %v", i, got, want)
			}
		}
	}
}

// A Look that comes again tells what it found last.
func TestLookAgain(t *testing.T) {
	nine := []int{5, 7, 9}
	for _, x := range []course{
		{"again", []int{5, 7}, [][]api.Call{{look()}, {change(to(1, 7, 9))}}, []int{0, 2, 1, 6, 0, 19},
			[][]api.Answer{{own(21, shows(5, 9))}, {own(6, well())}}, []int{packed(5, 1), packed(9, 2)}, []int{5, 9}},
		{"again twice", nine, [][]api.Call{{look()}, {move(0, 1, 1), move(2, 0, 1)}}, []int{0, 3, 1, 10, 0, 11, 1, 10, 0, 22},
			[][]api.Answer{{own(36, shows(5, 8, 8))}, {own(10, well()), own(10, well())}}, []int{packed(5, 3), packed(8, 2), packed(8, 2)}, []int{5, 8, 8}},
		{"again behind another Look", []int{5, 7}, [][]api.Call{{look()}, {look()}}, []int{0, 2, 1, 10, 0, 17},
			[][]api.Answer{{own(19, shows(5, 7))}, {own(10, shows(5, 7))}}, []int{packed(5, 2), packed(7, 2)}, []int{5, 7}},
		{"one that others help", []int{5, 7}, [][]api.Call{{look()}, {read(0)}, {move(0, 1, 1)}}, []int{0, 4, 1, 11, 2, 10, 0, 4},
			[][]api.Answer{{own(8, shows(5, 7))}, {own(11, holds(5))}, {own(10, well())}}, []int{packed(4, 2), packed(8, 2)}, []int{4, 8}},
		{"what moves between its loads", []int{5, 7}, [][]api.Call{{look()}, {move(0, 1, 1)}}, []int{0, 1, 1, 10, 0, 18},
			[][]api.Answer{{own(19, shows(4, 8))}, {own(10, well())}}, []int{packed(4, 2), packed(8, 2)}, []int{4, 8}},
	} {
		wantCourse(t, "P26.7: a Look again", x)
	}
}
