package joint_test

import (
	"slices"
	"testing"

	"skein/api"
	"skein/crew"
	"skein/joint"
)

// wantValues holds what cells hold against what they must, by Reads and by a Look.
func wantValues(t *testing.T, promise string, x *joint.Cells, want []int) {
	t.Helper()
	for c, n := range want {
		if got, err := x.Read(nil, c); got != n || err != api.OK {
			t.Errorf("%s: Read(%d): %d, %v, want %d", promise, c, got, err, n)
		}
	}
	if got, err := x.Look(nil); err != api.OK || !slices.Equal(got, want) {
		t.Errorf("%s: Look: %v, %v, want %v", promise, got, err, want)
	}
}

func TestNew(t *testing.T) {
	for _, n := range []int{1, 2, 3, 8, 9, 63, 64} {
		for _, first := range [][]int{firsts(n), make([]int, n), slices.Repeat([]int{api.MaxIndex}, n), slices.Repeat([]int{api.MaxIndex - 1, 0, 1}, n)[:n]} {
			x := newReal(t, first).all[0]
			var words []int
			for _, v := range first {
				words = append(words, packed(v, 0))
			}
			if got := x.Words(); !slices.Equal(got, words) {
				t.Errorf("P26.2: New(%v): the words are %v, want %v", first, got, words)
			}
			wantValues(t, "P26.1", x, first)
			if _, err := x.Read(nil, n); err != api.ErrJointCell {
				t.Errorf("P26.1: %d cells: Read(%d): %v", n, n, err)
			}
		}
	}
}

func TestNewRefuses(t *testing.T) {
	refuses := func(first []int, want api.Errno) {
		t.Helper()
		if x, err := joint.New(first); x != nil || err != want {
			t.Errorf("P26.1: New of %d numbers, %v: %v, %v, want %v", len(first), first[:min(len(first), 3)], x, err, want)
		}
	}
	for _, first := range [][]int{nil, {}, make([]int, 0, 9), make([]int, 65), make([]int, 66), firsts(65), make([]int, 128), make([]int, 1<<16)} {
		refuses(first, api.ErrJointMany)
	}
	for _, bad := range noValues {
		for _, n := range []int{1, 2, 3, 64} {
			for _, at := range []int{0, n / 2, n - 1} {
				first := firsts(n)
				first[at] = bad
				refuses(first, api.ErrJointValue)
			}
		}
		for _, n := range []int{65, 100} { // both would do
			first := firsts(n)
			first[0], first[n-1] = bad, bad
			refuses(first, api.ErrJointMany)
		}
	}
}

// makes lets a worker make so many descriptors more, all of which are done, none of which changes what cells hold.
func makes(t *testing.T, b *real, k, many, c int) {
	t.Helper()
	v, _ := b.all[0].Read(nil, c)
	for many > 0 {
		now := min(many, 64)
		run, err := crew.Run(by(k, slices.Repeat([]api.Call{change(to(c, v, v))}, now)...), b)
		if err != api.OK || run.Cut || len(run.Answers[k]) != now {
			t.Fatalf("P26.2: worker %d: %v, %v", k, run, err)
		}
		for _, a := range run.Answers[k] {
			if !sameAnswer(a, well()) {
				t.Fatalf("P26.2: worker %d, ahead of %d more: %+v", k, many, a)
			}
		}
		many -= now
	}
}

// The d-th descriptor of worker k is known by its number, as long as it is under way; behind it the tag tells how many there were.
func TestDescriptorsNumbers(t *testing.T) {
	for k := range 8 {
		b := newReal(t, []int{5, 7})
		made := 0
		for _, d := range []int{1, 2, 3, 10, 100, 1023, 1024} {
			makes(t, b, k, d-1-made, 0)
			made = d
			half := by(k, move(1, 0, 0))
			half.Until = 4 // two loads, and its first two lines
			if run, err := crew.Run(half, b); err != api.OK || !run.Cut {
				t.Fatalf("P26.2: worker %d: %+v, %v", k, run, err)
			}
			if got, want := b.all[0].Words(), under(k, d); got[0] != want || got[1] < 0 {
				t.Errorf("P26.2: worker %d's descriptor %d: the words are %v, want %d", k, d, got, want)
			}
			if got := b.all[0].Statuses(k); len(got) != d || got[d-1] != 0 || slices.ContainsFunc(got[:d-1], func(s int) bool { return s != 1 }) {
				t.Errorf("P26.2: worker %d's descriptor %d: of %d the last statuses are %v", k, d, len(got), got[max(0, len(got)-3):])
			}
			if v, err := b.all[0].Read(nil, 0); v != 5 || err != api.OK {
				t.Errorf("P26.2: behind worker %d's descriptor %d: %d, %v", k, d, v, err)
			}
			if got := b.all[0].Words()[0]; got != packed(5, d) {
				t.Errorf("P26.11: behind worker %d's descriptor %d: %d, want the tag %d", k, d, got, d)
			}
		}
	}
}

// Behind its last descriptor a worker's Changes, Moves and Looks are refused, behind their loads; what finds another error ahead tells that one; Reads go on, and so do all others.
func TestLastDescriptor(t *testing.T) {
	for k := range 8 {
		b := newReal(t, []int{5, 7, 9})
		makes(t, b, k, 1023, 2)
		if run, _ := crew.Run(by(k, move(0, 1, 2)), b); !sameAnswer(run.Answers[k][0], well()) {
			t.Errorf("P26.2: worker %d's last one: %+v", k, run)
		}
		before := b.frame()
		list := []struct {
			call api.Call
			want api.Answer
		}{
			{change(to(0, 3, 4)), own(1, failed(api.ErrJointMany))}, {change(to(0, 3, 3)), own(1, failed(api.ErrJointMany))}, {change(to(2, 9, 1), to(0, 3, 4)), own(2, failed(api.ErrJointMany))},
			{move(0, 1, 1), own(2, failed(api.ErrJointMany))}, {move(2, 0, 0), own(2, failed(api.ErrJointMany))}, {look(), own(3, failed(api.ErrJointMany))},
			{change(to(0, 4, 5)), own(1, failed(api.ErrJointOther))}, {change(to(0, 3, 4), to(2, 8, 1)), own(2, failed(api.ErrJointOther))},
			{move(0, 1, 4), own(2, failed(api.ErrJointLess))}, {move(0, 3, 1), own(1, failed(api.ErrJointCell))}, {change(), own(1, failed(api.ErrJointMany))},
			{read(0), own(1, holds(3))}, {read(1), own(1, holds(9))},
		}
		var calls []api.Call
		var want []api.Answer
		for _, x := range list {
			calls, want = append(calls, x.call), append(want, x.want)
		}
		run, err := crew.Run(by(k, calls...), b)
		if err != api.OK || !sameRun(run, steps(k, want...)) {
			t.Errorf("P26.2: worker %d behind its last one\ngot  %+v, %v\nwant %+v", k, run, err, steps(k, want...))
		}
		if after := b.frame(); !slices.Equal(before, after) {
			t.Errorf("P26.2: worker %d behind its last one: %v has become %v", k, before, after)
		}
		other := (k + 1) % 8
		run, _ = crew.Run(by(other, move(0, 1, 3), look()), b)
		if a := run.Answers[other]; len(a) != 2 || !sameAnswer(a[0], well()) || !sameAnswer(a[1], shows(0, 12, 9)) {
			t.Errorf("P26.2: worker %d behind worker %d's last one: %+v", other, k, a)
		}
	}
}

// A descriptor that isn't to be counts as well: who makes the last one so is refused when it comes again.
func TestLastDescriptorIsntToBe(t *testing.T) {
	b := newReal(t, []int{5, 7})
	makes(t, b, 0, 1023, 0)
	c := stepwise(work([]api.Call{change(to(1, 7, 8))}, []api.Call{change(to(1, 7, 7))}), 0, 1, 1, 6, 0, 7)
	run, err := crew.Run(c, b)
	if a := run.Answers[0]; err != api.OK || len(a) != 1 || !sameAnswer(a[0], failed(api.ErrJointMany)) || a[0].Own != 8 {
		t.Errorf("P26.2: the last one isn't to be: %+v, %v", run, err)
	}
	if got := b.all[0].Statuses(0); len(got) != 1024 || got[1023] != 2 {
		t.Errorf("P26.2: the last one isn't to be: %d, %v", len(got), got[1020:])
	}
	if got := b.all[0].Words(); !slices.Equal(got, []int{packed(5, 1023), packed(7, 1)}) {
		t.Errorf("P26.2: the last one isn't to be: the words are %v", got)
	}
}

// Who has no descriptor left helps others all the same, in its loads.
func TestHelpsWithoutDescriptors(t *testing.T) {
	for _, x := range []struct {
		call api.Call
		want api.Answer
	}{
		{read(0), own(11, holds(3))}, {move(0, 1, 1), own(12, failed(api.ErrJointMany))}, {change(to(0, 3, 1)), own(11, failed(api.ErrJointMany))},
		{look(), own(12, failed(api.ErrJointMany))}, {change(to(0, 5, 1)), own(11, failed(api.ErrJointOther))}, {move(0, 1, 5), own(12, failed(api.ErrJointLess))},
	} {
		b := newReal(t, []int{5, 7})
		makes(t, b, 1, 1024, 0)
		run, err := crew.Run(api.Case{Work: [][]api.Call{{move(0, 1, 2)}, {x.call}}, Turns: make([]int, 4), Halt: []int{4}}, b)
		if a := run.Answers[1]; err != api.OK || len(a) != 1 || !sameAnswer(a[0], x.want) || a[0].Own != x.want.Own {
			t.Errorf("P26.10: no descriptor is left: %+v: %+v, want %+v", x.call, run, x.want)
		}
		if got := b.all[0].Words(); !slices.Equal(got, []int{packed(3, 1025), packed(9, 1)}) {
			t.Errorf("P26.10: no descriptor is left: %+v: the words are %v", x.call, got)
		}
	}
}
