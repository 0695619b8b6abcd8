package joint_test

import (
	"slices"
	"testing"

	"skein/api"
	"skein/joint"
)

// wantAlone holds a call of worker k, without others, against what it must answer, and what the cells hold behind it.
func wantAlone(t *testing.T, promise string, first []int, k int, c api.Call, want api.Answer, values []int) {
	t.Helper()
	run, _ := wantModel(t, promise, first, by(k, c))
	if a := run.Answers[k]; len(a) != 1 || !sameAnswer(a[0], want) || a[0].Own != want.Own {
		t.Errorf("%s: %v, %+v: %+v, want %+v", promise, first, c, a, want)
	}
	wantPlay(t, promise, first, by(k, c), steps(k, want), values)
	b, _ := wantNamed(t, promise, by(k, c), first)
	wantValues(t, promise, b.all[0], values)
	alone := newReal(t, first)
	if a := alone.Do(nil, c); !sameAnswer(a, want) {
		t.Errorf("%s: %v, %+v, alone: %+v, want %+v", promise, first, c, a, want)
	}
	wantValues(t, promise, alone.all[0], values)
}

// wantRefused: nothing has changed, not even a tag, and no descriptor was made.
func wantRefused(t *testing.T, promise string, first []int, k int, c api.Call, lines int, err api.Errno) {
	t.Helper()
	wantAlone(t, promise, first, k, c, own(lines, failed(err)), first)
	b, _ := wantNamed(t, promise, by(k, c), first)
	if !slices.Equal(b.frame(), newReal(t, first).frame()) {
		t.Errorf("%s: %v, %+v: what was refused has changed something: %v", promise, first, c, b.frame())
	}
}

func TestRead(t *testing.T) {
	for _, n := range []int{1, 2, 3, 63, 64} {
		first := firsts(n)
		first[n-1] = api.MaxIndex
		var calls []api.Call
		var want []api.Answer
		for c, v := range first {
			if c < 50 {
				calls, want = append(calls, read(c)), append(want, own(1, holds(v)))
			}
		}
		for _, c := range noCells(n) {
			calls, want = append(calls, read(c)), append(want, own(1, failed(api.ErrJointCell)))
		}
		for k := range 8 {
			wantPlay(t, "P26.5", first, by(k, calls...), steps(k, want...), first)
		}
		b := newReal(t, first)
		for c := range n {
			if v, err := b.all[0].Read(nil, c); v != first[c] || err != api.OK {
				t.Errorf("P26.5: Read(%d): %d, %v", c, v, err)
			}
		}
		for _, c := range noCells(n) {
			if v, err := b.all[0].Read(nil, c); v != 0 || err != api.ErrJointCell {
				t.Errorf("P26.5: Read(%d): %d, %v", c, v, err)
			}
		}
		if !slices.Equal(b.frame(), newReal(t, first).frame()) {
			t.Errorf("P26.5: Reads have changed something: %v", b.frame())
		}
	}
}

// What each error of a Change is, and which one is told where several would do.
func TestChangeRefuses(t *testing.T) {
	first := []int{5, 7, 9}
	good, many := to(0, 5, 6), make([]api.Entry, 65)
	for i := range many {
		many[i] = to(i%3, 5, 6)
	}
	refused := func(err api.Errno, l ...api.Entry) {
		t.Helper()
		for _, k := range []int{0, 1, 7} {
			wantRefused(t, "P26.6", first, k, change(l...), 1, err)
		}
	}
	refused(api.ErrJointMany)
	refused(api.ErrJointMany, many...)
	refused(api.ErrJointMany, slices.Concat(many, many)...)
	refused(api.ErrJointCell, many[:64]...)
	refused(api.ErrJointCell, good, good)
	refused(api.ErrJointCell, good, to(1, 7, 8), to(0, 6, 5))
	refused(api.ErrJointCell, to(2, 9, 9), to(1, 7, 8), to(2, 9, 9))
	refused(api.ErrJointCell, to(0, 5, 6), to(1, 7, 8), to(2, 9, 1), to(3, 0, 0))
	for _, c := range noCells(3) {
		refused(api.ErrJointCell, to(c, 5, 6))
		refused(api.ErrJointCell, good, to(c, 5, 6))
		refused(api.ErrJointCell, to(c, 5, 6), good)
		refused(api.ErrJointCell, to(c, 5, 6), to(c, 5, 6))
	}
	for _, v := range noValues {
		refused(api.ErrJointValue, to(0, v, 6))
		refused(api.ErrJointValue, to(0, 5, v))
		refused(api.ErrJointValue, to(0, v, v))
		refused(api.ErrJointValue, good, to(1, 7, v))
		refused(api.ErrJointValue, to(2, v, 9), good)
		// Several would do.
		refused(api.ErrJointCell, to(0, v, v), to(3, 5, 6))
		refused(api.ErrJointCell, to(-1, v, v))
		refused(api.ErrJointCell, to(0, v, 6), to(0, 5, v))
		refused(api.ErrJointValue, to(0, 1, 6), to(1, 7, v))
		refused(api.ErrJointValue, to(1, 7, v), to(0, 1, 6))
		refused(api.ErrJointMany, append(slices.Clone(many), to(3, v, v))...)
	}
	all := make([]api.Entry, 65)
	for i := range all {
		all[i] = to(i, 10*(i+1), 1)
	}
	wantRefused(t, "P26.6", firsts(64), 0, change(all...), 1, api.ErrJointMany)
}

// A Change by its lines: its loads, and two of each cell, two for the status, one of each cell.
func TestChange(t *testing.T) {
	changed := func(first []int, values []int, l ...api.Entry) {
		t.Helper()
		for _, k := range []int{0, 1, 7} {
			wantAlone(t, "P26.6", first, k, change(l...), own(4*len(l)+2, well()), values)
		}
	}
	changed([]int{5}, []int{6}, to(0, 5, 6))
	changed([]int{5}, []int{5}, to(0, 5, 5))
	changed([]int{0}, []int{api.MaxIndex}, to(0, 0, api.MaxIndex))
	changed([]int{api.MaxIndex}, []int{0}, to(0, api.MaxIndex, 0))
	changed([]int{api.MaxIndex, 1}, []int{api.MaxIndex, 1}, to(0, api.MaxIndex, api.MaxIndex), to(1, 1, 1))
	changed([]int{5, 7, 9}, []int{5, 1, 9}, to(1, 7, 1))
	changed([]int{5, 7, 9}, []int{9, 7, 5}, to(2, 9, 5), to(0, 5, 9))
	for _, order := range [][]int{{0, 1, 2, 3}, {3, 2, 1, 0}, {1, 3, 0, 2}, {2, 0, 3, 1}, {3, 0}, {0, 3}, {1, 2}, {2}, {2, 3, 1}} {
		values := firsts(4)
		var l []api.Entry
		for i, c := range order {
			l, values[c] = append(l, to(c, 10*(c+1), i)), i
		}
		changed(firsts(4), values, l...)
	}
}

// All cells that there can be, in any order.
func TestChangeOfAll(t *testing.T) {
	for _, n := range []int{63, 64} {
		for _, step := range []int{1, n - 1, 5} { // 5: neither divides 63 nor 64
			first := firsts(n)
			values := slices.Clone(first)
			var l []api.Entry
			for i := range n {
				c := i * step % n
				l, values[c] = append(l, to(c, first[c], 1000+i)), 1000+i
			}
			if len(l) != n {
				t.Fatal(len(l))
			}
			wantAlone(t, "P26.6: all cells", first, 3, change(l...), own(4*n+2, well()), values)
		}
	}
}

// A cell that holds something else: by its place among the cells it is found behind so many loads, wherever it stands in the list.
func TestChangeOther(t *testing.T) {
	for n := 1; n <= 5; n++ {
		for at := range n {
			for _, order := range [][]int{{0, 1, 2, 3, 4}, {4, 3, 2, 1, 0}, {2, 0, 4, 1, 3}} {
				for _, other := range []int{0, 10*(at+1) - 1, 10*(at+1) + 1, api.MaxIndex} {
					var l []api.Entry
					for _, c := range order {
						if c == at {
							l = append(l, to(c, other, 1))
						} else if c < n {
							l = append(l, to(c, 10*(c+1), 1))
						}
					}
					wantRefused(t, "P26.6", firsts(n), at%3, change(l...), at+1, api.ErrJointOther)
				}
			}
		}
		// Of several the one of the least cell.
		for at := range n {
			var l []api.Entry
			for c := n - 1; c >= 0; c-- {
				v := 10 * (c + 1)
				if c >= at {
					v++
				}
				l = append(l, to(c, v, 1))
			}
			wantRefused(t, "P26.6", firsts(n), 0, change(l...), at+1, api.ErrJointOther)
		}
	}
	// Where a list's first cells hold what they must and New is what others hold, nothing is done of it.
	wantRefused(t, "P26.6", []int{5, 7}, 1, change(to(1, 5, 7), to(0, 5, 7)), 2, api.ErrJointOther)
}

// Old equal to New: the number stays, the tag doesn't.
func TestChangeToTheSame(t *testing.T) {
	x := newReal(t, []int{5, 7}).all[0]
	for i := 1; i <= 5; i++ {
		if ok, err := x.Change(nil, []api.Entry{to(1, 7, 7)}); !ok || err != api.OK {
			t.Errorf("P26.6: Old is New: %v, %v", ok, err)
		}
		if got, want := x.Words(), []int{packed(5, 0), packed(7, i)}; !slices.Equal(got, want) {
			t.Errorf("P26.11: Old is New: the words are %v, want %v", got, want)
		}
	}
}

// A descriptor that isn't to be, and then A again, as often as it must: what cells hold meanwhile decides.
func TestChangeAgain(t *testing.T) {
	touch := func(n int) []api.Call { return slices.Repeat([]api.Call{change(to(1, 7, 7))}, n) }
	two := change(to(1, 7, 8), to(0, 5, 6)) // in the order of their cells
	for _, x := range []course{
		{"again once", []int{5, 7}, [][]api.Call{{two}, touch(1)}, []int{0, 2, 1, 6, 0, 19},
			[][]api.Answer{{own(21, well())}, {own(6, well())}}, []int{packed(6, 1), packed(8, 2)}, []int{6, 8}},
		{"again twice", []int{5, 7}, [][]api.Call{{two}, touch(2)}, []int{0, 2, 1, 6, 0, 11, 1, 6, 0, 19},
			[][]api.Answer{{own(32, well())}, {own(6, well()), own(6, well())}}, []int{packed(6, 1), packed(8, 3)}, []int{6, 8}},
		{"again, and then a cell holds something else", []int{5, 7}, [][]api.Call{{two}, {change(to(1, 7, 7)), change(to(1, 7, 9))}}, []int{0, 2, 1, 6, 0, 9, 1, 6, 0, 2},
			[][]api.Answer{{own(13, failed(api.ErrJointOther))}, {own(6, well()), own(6, well())}}, []int{packed(5, 0), packed(9, 2)}, []int{5, 9}},
		{"again, and then the first cell holds something else", []int{5, 7}, [][]api.Call{{two}, {change(to(1, 7, 7)), change(to(0, 5, 4))}}, []int{0, 2, 1, 6, 0, 9, 1, 6, 0, 1},
			[][]api.Answer{{own(12, failed(api.ErrJointOther))}, {own(6, well()), own(6, well())}}, []int{packed(4, 1), packed(7, 1)}, []int{4, 7}},
		{"something else ahead of the load alone", []int{5, 7}, [][]api.Call{{two}, {change(to(1, 7, 9)), change(to(1, 9, 7))}}, []int{0, 1, 1, 12, 0, 9},
			[][]api.Answer{{own(10, well())}, {own(6, well()), own(6, well())}}, []int{packed(6, 1), packed(8, 3)}, []int{6, 8}},
		{"what was there comes back between the load and the cas", []int{5, 7}, [][]api.Call{{change(to(1, 7, 8))}, {change(to(1, 7, 9)), change(to(1, 9, 7))}}, []int{0, 2, 1, 12, 0, 11},
			[][]api.Answer{{own(13, well())}, {own(6, well()), own(6, well())}}, []int{packed(5, 0), packed(8, 3)}, []int{5, 8}},
	} {
		wantCourse(t, "P26.6: A again", x)
	}
	// Each time another descriptor is made.
	c := stepwise(work([]api.Call{two}, touch(2)), 0, 2, 1, 6, 0, 11, 1, 6, 0, 15)
	if b, _ := wantNamed(t, "P26.6", c, []int{5, 7}); !slices.Equal(b.all[0].Words(), []int{under(0, 3), under(0, 3)}) || !slices.Equal(b.all[0].Statuses(0), []int{2, 2, 0}) {
		t.Errorf("P26.2: the third descriptor: %v, %v", b.all[0].Words(), b.all[0].Statuses(0))
	}
}

// With an error, and without one, a Change's bool is what its error is not.
func TestChangesBool(t *testing.T) {
	x, _ := joint.New([]int{5})
	for _, l := range [][]api.Entry{nil, {to(0, 4, 1)}, {to(1, 4, 1)}, {to(0, 5, -1)}} {
		if ok, err := x.Change(nil, l); ok || err == api.OK {
			t.Errorf("P26.6: %v: %v, %v", l, ok, err)
		}
	}
	if ok, err := x.Change(nil, []api.Entry{to(0, 5, 4)}); !ok || err != api.OK {
		t.Errorf("P26.6: %v, %v", ok, err)
	}
}
