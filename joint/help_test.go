package joint_test

import (
	"slices"
	"testing"

	"skein/api"
	"skein/crew"
)

// course: lines of some workers' calls, what these answer that have ended, and what stands in the words then.
type course struct {
	name  string
	first []int
	calls [][]api.Call
	lines []int          // of pairs a worker, and how many
	want  [][]api.Answer // by worker
	words []int
	reads []int // what the cells hold then: words that hold descriptors are helped to their end
}

// wantCourse holds a course against the program, and against the model.
func wantCourse(t *testing.T, promise string, x course) {
	t.Helper()
	promise += ": " + x.name
	c := stepwise(work(x.calls...), x.lines...)
	run, _ := wantModel(t, promise, x.first, c)
	for k := range x.calls {
		var want []api.Answer
		if k < len(x.want) {
			want = x.want[k]
		}
		if !slices.EqualFunc(run.Answers[k], want, func(a, b api.Answer) bool { return sameAnswer(a, b) && a.Own == b.Own }) {
			t.Errorf("%s: worker %d\ngot  %+v\nwant %+v", promise, k, run.Answers[k], want)
		}
	}
	b, _ := wantNamed(t, promise, c, x.first)
	if got := b.all[0].Words(); !slices.Equal(got, x.words) {
		t.Errorf("%s: the words are %v, want %v", promise, got, x.words)
	}
	for c, n := range x.reads {
		if got, err := b.all[0].Read(nil, c); got != n || err != api.OK {
			t.Errorf("%s: Read(%d): %d, %v, want %d", promise, c, got, err, n)
		}
	}
	wantNamed(t, promise+", filmed", filmed(c, len(c.Turns)), x.first)
}

// A Move alone, line by line: what stands in the words behind each, and what the cells hold then for whoever comes.
func TestHelpLineByLine(t *testing.T) {
	a, b, d := packed(5, 0), packed(7, 0), under(0, 1)
	for i, x := range []struct {
		words  []int
		status []int
		reads  []int
	}{
		{[]int{a, b}, nil, []int{5, 7}}, {[]int{a, b}, []int{0}, []int{5, 7}}, // its loads
		{[]int{a, b}, []int{0}, []int{5, 7}}, {[]int{d, b}, []int{0}, []int{3, 9}}, {[]int{d, b}, []int{0}, []int{3, 9}}, {[]int{d, d}, []int{0}, []int{3, 9}},
		{[]int{d, d}, []int{1}, []int{3, 9}}, {[]int{d, d}, []int{1}, []int{3, 9}},
		{[]int{packed(3, 1), d}, []int{1}, []int{3, 9}}, {[]int{packed(3, 1), packed(9, 1)}, []int{1}, []int{3, 9}},
	} {
		for _, halt := range []bool{false, true} {
			c := stepwise(work([]api.Call{move(0, 1, 2)}, nil), 0, i+1)
			if halt {
				c = by(0, move(0, 1, 2), look())
				c.Halt = []int{i + 1}
			}
			wantModel(t, "P26.3: line by line", []int{5, 7}, c)
			r, _ := wantNamed(t, "P26.3: line by line", c, []int{5, 7})
			if got := r.all[0].Words(); !slices.Equal(got, x.words) || !slices.Equal(r.all[0].Statuses(0), x.status) {
				t.Errorf("P26.3: behind line %d the words are %v and the statuses %v, want %v", i+1, got, r.all[0].Statuses(0), x)
			}
			for c, n := range x.reads {
				if got, err := r.all[0].Read(nil, c); got != n || err != api.OK {
					t.Errorf("P26.8: behind line %d Read(%d): %d, %v, want %d", i+1, c, got, err, n)
				}
			}
		}
	}
}

// One that isn't to be, line by line: cell 1 is another word when its cas comes.
func TestHelpOfOneThatIsntToBe(t *testing.T) {
	a, b, d := packed(5, 0), packed(9, 1), under(0, 1)
	for i, x := range []struct {
		words  []int
		status int
	}{
		{[]int{a, b}, 0}, {[]int{d, b}, 0}, {[]int{d, b}, 0}, {[]int{d, b}, 0}, {[]int{d, b}, 0}, {[]int{d, b}, 2}, {[]int{d, b}, 2}, {[]int{a, b}, 2}, {[]int{a, b}, 2},
	} {
		wantCourse(t, "P26.3", course{
			name: "one that isn't to be, line by line", first: []int{5, 7},
			calls: [][]api.Call{{change(to(0, 5, 6), to(1, 7, 8))}, {change(to(1, 7, 9))}}, lines: []int{0, 2, 1, 6, 0, i + 1},
			want: [][]api.Answer{nil, {own(6, well())}}, words: x.words, reads: []int{5, 9},
		})
		c := stepwise(work([]api.Call{change(to(0, 5, 6), to(1, 7, 8))}, []api.Call{change(to(1, 7, 9))}), 0, 2, 1, 6, 0, i+1)
		if r, _ := wantNamed(t, "P26.3", c, []int{5, 7}); !slices.Equal(r.all[0].Statuses(0), []int{x.status}) {
			t.Errorf("P26.3: behind line %d the statuses are %v, want %d", i+1, r.all[0].Statuses(0), x.status)
		}
	}
}

// plainMove: of a Move of cell 0 to cell 1, and who reads cell 0.
func plainMove(name string, lines []int, words []int, want ...[]api.Answer) course {
	return course{name: name, first: []int{5, 7}, calls: [][]api.Call{{move(0, 1, 2)}, {read(0)}}, lines: lines, want: want, words: words, reads: []int{3, 9}}
}

// lateChange: of a Change of both cells whose cell 1 worker 2 changes ahead of it, and who reads cell 0.
func lateChange(name string, lines []int, words []int, reads []int, want ...[]api.Answer) course {
	return course{name: name, first: []int{5, 7}, calls: [][]api.Call{
		{change(to(0, 5, 6), to(1, 7, 8))}, {read(0)}, {change(to(1, 7, 9))}, {read(0)},
	}, lines: slices.Concat([]int{0, 2, 2, 6, 0, 2}, lines), want: want, words: words, reads: reads}
}

func helpCourses() []course {
	moved, d := []int{packed(3, 1), packed(9, 1)}, under(0, 1)
	late, changed := []int{packed(5, 0), packed(9, 1)}, []api.Answer{own(6, well())}
	one := func(a api.Answer) []api.Answer { return []api.Answer{a} }
	return []course{
		plainMove("the status isn't 0 any more at the first line", []int{0, 4, 1, 1, 0, 6, 1, 5}, moved, one(own(10, well())), one(own(6, holds(3)))),
		plainMove("the status is 1, but its cells are under way", []int{0, 7, 1, 6}, moved, nil, one(own(6, holds(3)))),
		plainMove("the status isn't 0 any more between two entries", []int{0, 4, 1, 4, 0, 6, 1, 5}, moved, one(own(10, well())), one(own(9, holds(3)))),
		plainMove("a helper does all that is left", []int{0, 4, 1, 11, 0, 4}, moved, one(own(8, well())), one(own(11, holds(3)))),
		plainMove("a helper finds it in both cells", []int{0, 6, 1, 12}, moved, nil, one(own(12, holds(3)))),
		plainMove("the cas from 0 to 1 is lost by the helper", []int{0, 4, 1, 6, 0, 4, 1, 5, 0, 3}, moved, one(own(11, well())), one(own(11, holds(3)))),
		plainMove("the cas from 0 to 1 is lost by who made it", []int{0, 6, 1, 8, 0, 2, 1, 4}, moved, nil, one(own(12, holds(3)))),
		plainMove("the cas from 0 to 2 is lost to 1, at the later entry", []int{0, 4, 1, 5, 0, 6, 1, 7}, moved, one(own(10, well())), one(own(12, holds(3)))),
		plainMove("the cas from 0 to 2 is lost to 1, at the first entry", []int{0, 4, 1, 2, 0, 6, 1, 7}, moved, one(own(10, well())), one(own(9, holds(3)))),
		plainMove("a cell is set free between a cas and the load", []int{0, 4, 1, 3, 0, 6, 1, 6}, moved, one(own(10, well())), one(own(9, holds(3)))),
		plainMove("the last lines, the first one lost, the second one won", []int{0, 4, 1, 8, 0, 3, 1, 3, 0, 1}, moved, one(own(8, well())), one(own(11, holds(3)))),
		plainMove("the last lines, the first one won, the second one lost", []int{0, 4, 1, 9, 0, 4, 1, 2}, moved, one(own(8, well())), one(own(11, holds(3)))),
		{"another word, at the first entry", []int{5, 7}, [][]api.Call{{change(to(0, 5, 6))}, {change(to(0, 5, 8))}}, []int{0, 1, 1, 6, 0, 7},
			[][]api.Answer{{own(8, failed(api.ErrJointOther))}, changed}, []int{packed(8, 1), packed(7, 0)}, []int{8, 7}},
		{"another word of the same number, at the first entry", []int{5, 7}, [][]api.Call{{change(to(0, 5, 6))}, {change(to(0, 5, 5))}}, []int{0, 1, 1, 6, 0, 12},
			[][]api.Answer{{own(13, well())}, changed}, []int{packed(6, 2), packed(7, 0)}, []int{6, 7}},
		{"another word of the same number, at the later entry", []int{5, 7}, [][]api.Call{{change(to(0, 5, 6), to(1, 7, 8))}, {change(to(1, 7, 7))}}, []int{0, 2, 1, 6, 0, 19},
			[][]api.Answer{{own(21, well())}, changed}, []int{packed(6, 1), packed(8, 2)}, []int{6, 8}},
		lateChange("another word, at the later entry", []int{0, 9}, late, []int{5, 9}, one(own(13, failed(api.ErrJointOther))), nil, changed),
		lateChange("the cas from 0 to 2 is lost to 2, by the helper", []int{1, 7, 0, 4, 1, 5, 0, 5}, late, []int{5, 9}, one(own(13, failed(api.ErrJointOther))), one(own(12, holds(5))), changed),
		lateChange("the cas from 0 to 2 is lost to 2, by who made it", []int{0, 3, 1, 12, 0, 6}, late, []int{5, 9}, one(own(13, failed(api.ErrJointOther))), one(own(12, holds(5))), changed),
		lateChange("the status is 2 at the first line", []int{1, 1, 0, 9, 1, 5}, late, []int{5, 9}, one(own(13, failed(api.ErrJointOther))), one(own(6, holds(5))), changed),
		lateChange("the status is 2 between two entries", []int{1, 4, 0, 9, 1, 5}, late, []int{5, 9}, one(own(13, failed(api.ErrJointOther))), one(own(9, holds(5))), changed),
		lateChange("the status is 2, but a cell is under way", []int{0, 4, 1, 6}, late, []int{5, 9}, nil, one(own(6, holds(5))), changed),
		lateChange("a cas that comes behind the status 2", []int{1, 2, 0, 9, 1, 1}, []int{d, packed(9, 1)}, []int{5, 9}, one(own(13, failed(api.ErrJointOther))), nil, changed),
		lateChange("a cas that comes behind the status 2, and is put right", []int{1, 2, 0, 9, 1, 6}, late, []int{5, 9}, one(own(13, failed(api.ErrJointOther))), one(own(8, holds(5))), changed),
		lateChange("a cas that comes behind the status 2, and is put right by another one", []int{1, 2, 0, 9, 1, 1, 3, 6}, late, []int{5, 9}, one(own(13, failed(api.ErrJointOther))), nil, changed, one(own(6, holds(5)))),
	}
}

func TestHelp(t *testing.T) {
	for _, x := range helpCourses() {
		wantCourse(t, "P26.3", x)
	}
}

// A descriptor that finds another one in its way helps it, and comes to that entry again.
func TestHelpWithinHelp(t *testing.T) {
	nine, two := []int{5, 7, 9}, change(to(0, 5, 6), to(1, 7, 8))
	first := []int{1, 2, 3, 4}
	chain := [][]api.Call{{change(to(0, 1, 11), to(1, 2, 12))}, {change(to(1, 2, 22), to(2, 3, 23))}, {change(to(2, 3, 33), to(3, 4, 34))}, {read(0)}}
	chained := []int{0, 2, 1, 2, 2, 2, 2, 2, 1, 2, 0, 2} // each of the three stands in its lower cell, in the other one's way
	for _, x := range []course{
		{"another one, that is done, is in the way", nine, [][]api.Call{{move(0, 1, 2)}, {move(0, 2, 1)}}, []int{1, 2, 0, 4, 1, 29, 0, 4},
			[][]api.Answer{{own(8, well())}, {own(31, well())}}, []int{packed(2, 2), packed(9, 1), packed(10, 1)}, []int{2, 9, 10}},
		{"another one, that isn't to be, is in the way: then the entry's cas is done", nine, [][]api.Call{{two}, {change(to(0, 5, 4))}, {change(to(1, 7, 9))}}, []int{0, 2, 1, 1, 2, 6, 0, 2, 1, 18, 0, 7},
			[][]api.Answer{{own(9, failed(api.ErrJointOther))}, {own(19, well())}, {own(6, well())}}, []int{packed(4, 1), packed(9, 1), packed(9, 0)}, []int{4, 9, 9}},
		{"the old word is there again behind the cas", nine, [][]api.Call{{change(to(0, 5, 6))}, {change(to(0, 5, 8), to(1, 7, 9))}, {change(to(1, 7, 7))}}, []int{0, 1, 1, 2, 2, 6, 1, 2, 0, 2, 1, 7, 0, 10, 1, 1},
			[][]api.Answer{{own(13, well())}, {own(12, failed(api.ErrJointOther))}, {own(6, well())}}, []int{packed(6, 1), packed(7, 1), packed(9, 0)}, []int{6, 7, 9}},
		{"a last cas from 0 to 1 that comes behind the status 2", nine, [][]api.Call{{two}, {change(to(1, 7, 9), to(2, 9, 1))}, {read(0)}, {change(to(2, 9, 3))}},
			[]int{0, 2, 1, 2, 3, 6, 1, 2, 0, 4, 2, 5, 1, 7, 0, 2, 2, 6, 0, 13, 1, 1},
			[][]api.Answer{{own(21, well())}, {own(12, failed(api.ErrJointOther))}, {own(11, holds(5))}, {own(6, well())}}, []int{packed(6, 1), packed(8, 1), packed(3, 1)}, []int{6, 8, 3}},
		{"behind the help its own status is 2", nine, [][]api.Call{{two}, {read(0)}, {move(1, 2, 1)}}, []int{0, 2, 2, 4, 0, 2, 1, 16, 0, 9, 1, 5},
			[][]api.Answer{{own(13, failed(api.ErrJointOther))}, {own(21, holds(5))}}, []int{packed(5, 0), packed(6, 1), packed(10, 1)}, []int{5, 6, 10}},
		{"three deep", first, chain, append(slices.Clone(chained), 3, 36),
			[][]api.Answer{nil, nil, nil, {own(36, holds(11))}}, []int{packed(11, 1), packed(12, 1), packed(33, 1), packed(34, 1)}, []int{11, 12, 33, 34}},
		{"three deep, by who made the first one", first, chain, append(slices.Clone(chained), 0, 31),
			[][]api.Answer{{own(35, well())}}, []int{packed(11, 1), packed(12, 1), packed(33, 1), packed(34, 1)}, []int{11, 12, 33, 34}},
		{"three deep, ahead of anybody's help", first, chain, chained, nil, []int{under(0, 1), under(1, 1), under(2, 1), packed(4, 0)}, []int{11, 12, 33, 34}},
		{"three deep, the deepest one first", first, chain, append(slices.Clone(chained), 2, 6, 1, 7, 0, 6),
			[][]api.Answer{{own(10, well())}, nil, {own(10, well())}}, []int{packed(11, 1), packed(12, 1), packed(33, 1), packed(34, 1)}, []int{11, 12, 33, 34}},
	} {
		wantCourse(t, "P26.3: help within help", x)
	}
}

// As deep as there can be workers: each but the last one stands in the way of the one ahead.
func TestDeepestHelp(t *testing.T) {
	for workers := 2; workers <= 7; workers++ {
		var calls [][]api.Call
		var lines, words []int
		for k := range workers {
			calls = append(calls, []api.Call{change(to(k, 10*(k+1), 1), to(k+1, 10*(k+2), 2))})
			lines = append(lines, k, 2)
			words = append(words, under(k, 1))
		}
		for k := workers - 1; k >= 0; k-- {
			lines = append(lines, k, 2)
		}
		calls = append(calls, []api.Call{read(0)})
		words = append(words, packed(10*(workers+1), 0))
		c := stepwise(work(calls...), lines...)
		b, m := wantNamed(t, "P26.3: the deepest help", c, firsts(workers+1))
		if got := b.all[0].Words(); !slices.Equal(got, words) {
			t.Fatalf("P26.3: the deepest help: the words are %v, want %v", got, words)
		}
		c = stepwise(work(calls...), append(lines, workers, 1000)...)
		_, j := wantModel(t, "P26.3: the deepest help", firsts(workers+1), c)
		// The last one is done, so the one ahead of it isn't to be, so that one's cell is free for the one ahead, and so on.
		want := 10
		if workers%2 == 1 {
			want = 1
		}
		if v, err := b.all[0].Read(nil, 0); v != want || err != api.OK || m.alone(read(0)).N != want || !slices.Equal(b.frame(), m.frame()) {
			t.Errorf("P26.3: the deepest help: %d, %v, %v", v, err, b.all[0].Words())
		}
		if j.ways["help "+string(rune('0'+workers))+" deep"] == 0 {
			t.Errorf("P26.3: of %d workers none helps so deep: %v", workers, j.ways)
		}
	}
}

// A load finds a descriptor once, twice, and none; it tells what is there behind the last one.
func TestLoad(t *testing.T) {
	first := []int{5, 7, 9}
	calls := [][]api.Call{{move(0, 1, 2)}, {read(0)}, {move(0, 2, 1)}}
	for _, x := range []course{
		{"no descriptor", first, calls, []int{0, 2, 1, 1}, [][]api.Answer{nil, {own(1, holds(5))}}, []int{packed(5, 0), packed(7, 0), packed(9, 0)}, []int{5, 7, 9}},
		{"no descriptor any more", first, calls, []int{0, 9, 1, 1}, [][]api.Answer{nil, {own(1, holds(3))}}, []int{packed(3, 1), under(0, 1), packed(9, 0)}, []int{3, 9, 9}},
		{"a descriptor", first, calls, []int{0, 4, 1, 11}, [][]api.Answer{nil, {own(11, holds(3))}}, []int{packed(3, 1), packed(9, 1), packed(9, 0)}, []int{3, 9, 9}},
		{"another one behind that", first, calls, []int{0, 4, 1, 10, 2, 4, 1, 11}, [][]api.Answer{nil, {own(21, holds(2))}}, []int{packed(2, 2), packed(9, 1), packed(10, 1)}, []int{2, 9, 10}},
		{"a word behind that, which another one changed", first, calls, []int{0, 4, 1, 10, 2, 10, 1, 1}, [][]api.Answer{nil, {own(11, holds(2))}, {own(10, well())}}, []int{packed(2, 2), packed(9, 1), packed(10, 1)}, []int{2, 9, 10}},
	} {
		wantCourse(t, "P26.4", x)
	}
	// The loads of Changes, Moves and Looks do so as well, each of them.
	for _, x := range []struct {
		call  api.Call
		loads int // ahead of that of cell 1
		lines int
		want  api.Answer
	}{
		{change(to(1, 9, 1)), 0, 5, well()}, {change(to(0, 3, 1), to(1, 9, 1)), 1, 8, well()}, {move(1, 2, 3), 0, 9, well()}, {move(2, 1, 3), 0, 9, well()}, {move(1, 0, 3), 1, 8, well()}, {look(), 1, 12, shows(3, 9, 9)},
	} {
		c := stepwise(work([]api.Call{move(0, 1, 2)}, []api.Call{x.call}), 0, 9, 1, x.loads, 1, 6+x.lines)
		b, _ := wantNamed(t, "P26.4: each load", c, first)
		run, _ := wantModel(t, "P26.4: each load", first, c)
		if a := run.Answers[1]; len(a) != 1 || !sameAnswer(a[0], x.want) || a[0].Own != x.loads+6+x.lines {
			t.Errorf("P26.4: %+v finds a descriptor in cell 1: %+v, %v", x.call, a, b.all[0].Words())
		}
	}
}

// Tags behind the last one begin again: a word of tag 0 comes behind one of the greatest tag.
func TestTagsGoRound(t *testing.T) {
	b := newReal(t, []int{5, 7})
	b.all[0].Lay(0, packed(5, tags-1))
	b.all[0].Lay(1, packed(7, tags-2))
	for i, want := range [][]int{{packed(3, 0), packed(9, tags-1)}, {packed(1, 1), packed(11, 0)}} {
		if ok, err := b.all[0].Move(nil, 0, 1, 2); !ok || err != api.OK {
			t.Errorf("P26.11: Move %d: %v, %v", i, ok, err)
		}
		if got := b.all[0].Words(); !slices.Equal(got, want) {
			t.Errorf("P26.11: Move %d: the words are %v, want %v", i, got, want)
		}
	}
}

// Each call's lines are its own, also where one call of a run does several of these: what is refused has one as well.
func TestLinesOfSeveralCalls(t *testing.T) {
	for _, x := range []struct {
		call  api.Call
		lines int
		err   api.Errno
	}{
		{read(0), 1, api.OK}, {change(to(0, 5, 5)), 6, api.OK}, {move(1, 0, 0), 10, api.OK}, {look(), 10, api.OK},
		{read(2), 1, api.ErrJointCell}, {change(), 1, api.ErrJointMany}, {change(to(2, 0, 0)), 1, api.ErrJointCell}, {change(to(0, -1, 0)), 1, api.ErrJointValue},
		{move(0, 2, 0), 1, api.ErrJointCell}, {move(0, 1, -1), 1, api.ErrJointValue}, {move(0, 1, 8), 2, api.ErrJointLess}, {change(to(0, 4, 1), to(1, 7, 1)), 1, api.ErrJointOther},
	} {
		for k := range 8 {
			b := newReal(t, []int{5, 7})
			run, err := crew.Run(by(k, x.call), does(func(w *crew.Worker, c api.Call) api.Answer {
				b.Do(w, c)
				return b.Do(w, c)
			}))
			if err != api.OK || run.Steps != 2*x.lines || run.Answers[k][0].Err != x.err {
				t.Errorf("P26.3, P26.5, P26.6, P26.7: %+v, twice: %+v, %v", x, run, err)
			}
		}
	}
}
