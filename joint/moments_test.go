package joint_test

import (
	"slices"
	"testing"

	"skein/api"
	"skein/joint"
)

// deed: a call of a run, and what it answered; open: it hasn't ended.
type deed struct {
	worker, call int // whose, and which one of its calls
	c            api.Call
	answer       api.Answer
	open         bool
}

// deeds: all calls of a run that were begun.
func deeds(c api.Case, run api.Run) []deed {
	var list []deed
	for k, answers := range run.Answers {
		for i, a := range answers {
			list = append(list, deed{worker: k, call: i, c: c.Work[k][i], answer: a})
		}
	}
	for _, o := range run.Open {
		i := len(run.Answers[o.Worker])
		list = append(list, deed{worker: o.Worker, call: i, c: c.Work[o.Worker][i], answer: api.Answer{Begin: o.Begin, End: highest, Ok: true}, open: true})
	}
	return list
}

// becomes: what cells hold behind a call that is done at one moment; false: it can't be done there.
func becomes(state []int, c api.Call) ([]int, bool) {
	behind := slices.Clone(state)
	switch c.Kind {
	case 2:
		l, _ := entriesOf(c.Pairs)
		for _, e := range l {
			if state[e.Cell] != e.Old {
				return nil, false
			}
			behind[e.Cell] = e.New
		}
	case 3:
		behind[c.A] -= c.C
		behind[c.B] += c.C
		return behind, behind[c.A] >= 0 && behind[c.B] <= api.MaxIndex
	}
	return behind, true
}

// isWhy tells whether cells that hold this are why a call was answered so, which changes nothing.
func isWhy(state []int, c api.Call, a api.Answer) bool {
	switch {
	case c.Kind == 1 && a.Err == api.OK:
		return state[c.A] == a.N
	case a.Err == api.ErrJointOther:
		l, _ := entriesOf(c.Pairs)
		return slices.ContainsFunc(l, func(e api.Entry) bool { return state[e.Cell] != e.Old })
	case a.Err == api.ErrJointLess:
		return state[c.A] < c.C
	case a.Err == api.ErrJointValue && c.Kind == 3 && c.C >= 0 && c.C <= api.MaxIndex:
		return state[c.B]+c.C > api.MaxIndex
	}
	return true // it was refused for what it asks
}

// after: what cells hold behind a deed whose moment this is; false: it can't be its moment.
func (d deed) after(state []int) ([]int, bool) {
	switch {
	case d.answer.Err != api.OK || d.c.Kind == 1:
		return state, d.open || isWhy(state, d.c, d.answer)
	case d.c.Kind == 4:
		return state, d.open || slices.Equal(state, d.answer.Ints)
	}
	return becomes(state, d.c)
}

// search looks for an order of deeds.
type search struct {
	list []deed
	last []int // what cells hold at the end
	dead map[point]int
}

// point: which deeds are in an order, and what cells hold behind them.
type point struct {
	in    uint
	state [4]int
}

// finds tells whether there is an order of those that aren't in it yet, from what cells hold now: none stands ahead of one that ended ahead of its first line; open ones may be missing.
func (s *search) finds(in uint, state []int) bool {
	p := point{in: in}
	copy(p.state[:], state)
	if s.dead[p] > 0 {
		return false
	}
	s.dead[p] = 1
	missing, first := false, highest // the earliest end of those that are missing
	for i, d := range s.list {
		if in>>i&1 == 0 && !d.open {
			missing, first = true, min(first, d.answer.End)
		}
	}
	if !missing && slices.Equal(state, s.last) {
		return true
	}
	for i, d := range s.list {
		if in>>i&1 == 1 || d.answer.Begin > first {
			continue
		}
		if behind, can := d.after(state); can && s.finds(in|1<<i, behind) {
			return true
		}
	}
	return false
}

// wantOrder: of at most four cells: there is an order of a run's calls in which each is done at one moment, within its lines, or, if it is open, wholly or not at all.
func wantOrder(t *testing.T, first []int, c api.Case) api.Run {
	t.Helper()
	run, values, err := joint.Play(first, c)
	if err != api.OK {
		t.Fatalf("P26.9: %v, %+v: %v", first, c, err)
	}
	s := &search{deeds(c, run), values, map[point]int{}}
	if !s.finds(0, first) {
		t.Fatalf("P26.9: %v, %+v: no order of %+v, and then %v", first, c, s.list, values)
	}
	return run
}

// wantMoments holds a run against the moments at which the chapter says that its calls are done: the lines in which their statuses become 1.
func wantMoments(t *testing.T, x mixed) {
	t.Helper()
	run, m := wantModel(t, "P26.9", x.first, x.c)
	dones := m.dones
	told := [][]int{x.first} // what all cells hold behind each step
	when := map[[2]int][]int{}
	for step := 1; step <= m.steps; step++ {
		now := told[step-1]
		for len(dones) > 0 && dones[0].step == step {
			d := dones[0]
			dones = dones[1:]
			when[[2]int{d.worker, d.call}] = append(when[[2]int{d.worker, d.call}], step)
			behind, can := becomes(now, x.c.Work[d.worker][d.call])
			if !can {
				t.Fatalf("P26.9: %+v: %+v at %v", x, d, now)
			}
			now = behind
		}
		told = append(told, now)
	}
	for _, d := range deeds(x.c, run) {
		wantMoment(t, x, d, told, when[[2]int{d.worker, d.call}])
	}
	_, values, _ := joint.Play(x.first, x.c)
	if !slices.Equal(values, told[m.steps]) {
		t.Fatalf("P26.9: %+v: at the end %v, want %v", x, values, told[m.steps])
	}
}

// wantMoment: one that was done has just one moment, within its lines; what answers otherwise has none, and a reason within its lines.
func wantMoment(t *testing.T, x mixed, d deed, told [][]int, steps []int) {
	t.Helper()
	if d.open {
		if len(steps) > 1 || len(steps) == 1 && steps[0] < d.answer.Begin {
			t.Fatalf("P26.9: %+v: %+v is open, and done at %v", x, d, steps)
		}
		return
	}
	if d.answer.Err == api.OK && d.c.Kind != 1 {
		if len(steps) != 1 || steps[0] < d.answer.Begin || steps[0] > d.answer.End {
			t.Fatalf("P26.9: %+v: %+v is done at %v", x, d, steps)
		}
		if d.c.Kind == 4 && !slices.Equal(d.answer.Ints, told[steps[0]]) {
			t.Fatalf("P26.9: %+v: %+v, want %v", x, d, told[steps[0]])
		}
		return
	}
	within := told[d.answer.Begin-1 : d.answer.End+1]
	if len(steps) > 0 || !slices.ContainsFunc(within, func(state []int) bool { return isWhy(state, d.c, d.answer) }) {
		t.Fatalf("P26.9: %+v: %+v, done at %v, want a reason in %v", x, d, steps, within)
	}
}

// sumOf: of Moves alone the sum is as it was at first.
func sumOf(list []int) int {
	sum := 0
	for _, n := range list {
		sum += n
	}
	return sum
}

// wantSums: each Look's sum, and that at the end, is that of the first numbers.
func wantSums(t *testing.T, x mixed) int {
	t.Helper()
	run, values, _ := joint.Play(x.first, x.c)
	looks := 0
	for _, d := range deeds(x.c, run) {
		if d.c.Kind == 4 && !d.open {
			looks++
			if sumOf(d.answer.Ints) != sumOf(x.first) {
				t.Fatalf("P26.9: %+v: a Look tells %v", x, d.answer.Ints)
			}
		}
	}
	if sumOf(values) != sumOf(x.first) {
		t.Fatalf("P26.9: %+v: at the end %v", x, values)
	}
	return looks
}
