package store_test

import (
	"fmt"
	"slices"
	"testing"

	"skein/api"
	"skein/store"
)

// P32.4: the most lines that a Get and a Peek do: their head isn't settled, and another one settles it meanwhile.
func TestMostLines(t *testing.T) {
	for _, x := range []struct {
		name   string
		source []api.Pair
		write  api.Call
		deep   int // of the newest version, and of the one ahead
		before int
	}{
		{"a leaf", pairs(1, 10), put(1, 11), 1, 1},
		{"nothing", pairs(1, 10), drop(1), 0, 1},
		{"two", pairs(1, 10), put(0, 11), 2, 1},
		{"many", pairs(1, 10, 2, 20, 4, 40, 8, 80, 16, 160), put(0, 1), 6, 5},
	} {
		s := api.Setup{Parts: 1, Workers: 3, Slots: 60, Leases: 2, Source: x.source}
		for _, c := range []api.Call{get(1), peek(0, 1)} {
			ahead := []api.Call{get(1), snap(0)}
			all := newModel(s)
			for _, a := range append(slices.Clone(ahead), x.write) {
				all.alone(a)
			}
			of := all.alone(get(1)).Own // when it is settled
			lines := linesOf(s, append(slices.Clone(ahead), x.write)...) - linesOf(s, ahead...)
			// Worker 1 publishes and doesn't settle; worker 0 has loaded the head, its mark and now when worker 2 settles it.
			m := mixed{s: s, c: work(append(slices.Clone(ahead), c), []api.Call{x.write}, []api.Call{get(1)})}
			m.c.Turns = make([]int, linesOf(s, ahead...))
			m.c.Halt = []int{0, lines - 1 - 3}
			m.c.Turns = append(m.c.Turns, slices.Repeat([]int{1}, lines-1-3)...)
			m.c.Turns = append(m.c.Turns, slices.Repeat([]int{0}, map[int]int{1: 6, 8: 5}[c.Kind])...)
			m.c.Turns = append(m.c.Turns, slices.Repeat([]int{1}, 7)...) // worker 1 is halted: the second one that is ready is worker 2
			f := check(t, m)
			want := 10 + max(1, x.deep)
			if c.Kind == 8 {
				want = 8 + 2 + max(1, x.before)
			}
			if a := f.run.Answers[0][2]; a.Own != want || a.Err != api.OK {
				t.Errorf("P32.4: %s: %+v: %+v, want %d lines; settled it would do %d", x.name, c, a, want, of)
			}
		}
	}
}

// P32.5: a write goes round just as often as another one publishes that part meanwhile; another part's versions don't matter.
func TestWhoGoesRound(t *testing.T) {
	takesLong(t)
	s := api.Setup{Parts: 2, Workers: 2, Slots: 100, Leases: 1, Source: pairs(1, 10, far, 20)}
	ahead := []api.Call{get(1), get(far)}
	for _, c := range []api.Call{put(1, 5), drop(1), swap(1, 10, 5), many(1, 5, 2, 6)} {
		alone := linesOf(s, append(slices.Clone(ahead), c)...) - linesOf(s, ahead...)
		for at := range alone + 1 {
			for _, o := range []struct {
				call  api.Call
				round bool
			}{{put(3, 7), true}, {many(3, 7, 4, 8), true}, {put(far, 7), false}, {put(1, 10), false}, {get(1), false}, {snap(0), false}, {trim(0), false}, {drop(5), false}} {
				x := sideBySide(s, ahead, []int{at}, slices.Repeat([]int{1}, 60), []api.Call{c}, []api.Call{o.call})
				f := check(t, x)
				a := f.run.Answers[0][2]
				// The head is loaded with the line 4; the cas is the last one but 4 (settling, and Leave).
				if between := o.round && at >= 4 && at < alone-4; f.again != bit(between) || between && a.Own <= alone || !a.Ok {
					t.Errorf("P32.5: %+v, broken off behind %d lines by %+v: %+v", c, at, o.call, a)
				}
			}
		}
	}
	for rounds := 1; rounds <= 4; rounds++ {
		x := sideBySide(s, ahead, []int{3}, nil, []api.Call{put(1, 5)}, nil)
		alone := 18
		for i := range rounds {
			x.c.Work[1] = append(x.c.Work[1], put(3, i))
			x.c.Turns = append(x.c.Turns, slices.Repeat([]int{0}, 2+1)...) // Top and Read
			x.c.Turns = append(x.c.Turns, slices.Repeat([]int{1}, 24)...)
			x.c.Turns = append(x.c.Turns, slices.Repeat([]int{0}, 60)[:linesOfLateRound(i)]...)
		}
		f := check(t, x)
		if a := f.run.Answers[0][2]; f.again != rounds || !a.Ok || a.M != rounds+2 || a.Own <= alone+10*rounds {
			t.Errorf("P32.5: %d rounds: %d, %+v", rounds, f.again, a)
		}
	}
}

// linesOfLateRound: of a Put whose Push comes too late, from the change on: in the first round the tree is a leaf, then it has two.
func linesOfLateRound(i int) int {
	if i == 0 {
		return 1 + 3 + 3 + 1 + 4 + 4
	}
	return 2 + 6 + 3 + 1 + 4 + 8
}

// P32.6: however many come at once, and however often a loading fails: one version of number 1.
func TestLoadedOnce(t *testing.T) {
	takesLong(t)
	for fails := range 4 {
		for seed := range 60 {
			s := api.Setup{Parts: 2, Workers: 6, Slots: 60, Leases: 6, Source: pairs(1, 10, 2, 20, far, 30), Fails: fails}
			m := mixer(seed)
			x := mixed{s: s}
			for k := range 5 {
				calls := [][]api.Call{{get(1), get(far)}, {put(1, k), get(1)}, {snap(0), peek(0, 1), peek(0, far)}, {snap(1), name(k, 1), peekNamed(k, 1)}, {many(far, k), drop(2)}}
				x.c.Work = append(x.c.Work, slices.Concat(calls[m.below(5)], calls[m.below(5)]))
			}
			for range 400 {
				x.c.Turns = append(x.c.Turns, m.below(5))
			}
			f := check(t, x)
			failed := [2]int{}
			for _, c := range f.calls {
				if c.answer.Err == api.ErrLoadFailed {
					failed[c.part]++
				}
			}
			for part, n := range failed {
				if n > fails || f.moments[len(f.moments)-1].states[part] == 2 && (n != fails || len(f.all[part]) == 0) {
					t.Fatalf("P32.6: %+v: %d loadings of part %d failed", x, n, part)
				}
			}
		}
	}
}

// P32.11: who is halted within holds back what is retired behind its Enter's second line, and no more: others go on, till the pool is full; reads go on then, too.
func TestHeldBack(t *testing.T) {
	s := api.Setup{Parts: 2, Workers: 2, Slots: 16, Leases: 2, Source: pairs(1, 10, far, 20)}
	ahead := []api.Call{get(1), get(far)}
	var others []api.Call
	for i := range 8 {
		others = append(others, put(1, i), trim(0), advance(), advance(), advance(), collect(), get(1))
	}
	others = append(others, snap(0), peek(0, 1), peek(0, far), get(far))
	at := linesOf(s, ahead...)
	for _, c := range []api.Call{get(1), put(1, 5), drop(1), swap(1, 10, 3), many(1, 5, 2, 7), trim(0), peekNamed(7, 1)} {
		enters := map[int]int{1: 3, 2: 3, 3: 3, 4: 3, 5: 3, 12: 2, 11: 2}[c.Kind]
		lines := linesOf(s, append(slices.Clone(ahead), c)...) - at
		for halt := 1; halt < lines; halt++ {
			x := sideBySide(s, ahead, []int{halt}, nil, []api.Call{c}, others)
			x.c.Halt = []int{at + halt}
			f := check(t, x)
			counts := map[string]int{}
			for i, a := range f.run.Answers[1] {
				counts[fmt.Sprint(others[i].Kind, " ", a.Err)]++
				if others[i].Kind == 14 {
					counts["given back"] += a.N
				}
				if k := others[i].Kind; (k == 1 || k == 8) && a.Err != api.OK {
					t.Errorf("P32.11: %+v halted behind %d lines: %+v: %+v", c, halt, others[i], a)
				}
			}
			within := halt >= enters
			if len(f.run.Answers[1]) != len(others) || within != (counts["given back"] == 0) || within != (counts["2 "+noRoom.Error()] > 0) || within != (f.kept > 0) {
				t.Errorf("P32.11: %+v halted behind %d lines: %v, %d kept", c, halt, counts, f.kept)
			}
		}
	}
	// What was retired ahead of its Enter comes back.
	x := sideBySide(s, []api.Call{get(1)}, nil, nil, []api.Call{get(1)}, []api.Call{put(1, 11), trim(0), advance(), advance(), collect()})
	x.c.Turns = slices.Concat(make([]int, 18), slices.Repeat([]int{1}, 18+12+4), make([]int, 4))
	x.c.Halt = []int{18 + 4}
	f := check(t, x)
	if a := f.run.Answers[1]; len(f.run.Open) != 1 || a[1].N != 2 || !a[2].Ok || !a[3].Ok || a[4].N != 2 || f.moments[len(f.moments)-1].at[0] != 2 {
		t.Errorf("P32.11: %+v", f.run)
	}
}

// A lease that somebody is halted in the midst of taking, or holds, holds back versions, and nobody.
func TestHeldBackByLeases(t *testing.T) {
	s := api.Setup{Parts: 1, Workers: 2, Slots: 30, Leases: 2, Source: pairs(1, 10)}
	others := []api.Call{put(1, 1), put(1, 2), trim(0), advance(), advance(), collect(), snap(0), peek(0, 1), get(1)}
	// While it is being taken nothing is trimmed; then now is 1 still, so all versions have its stamp, and it shows the newest one; when it has moved now on it shows the first one.
	for halt, want := range map[int]int{1: 0, 2: 0, 3: 4, 4: 4, 5: 0} {
		x := sideBySide(s, []api.Call{get(1)}, []int{halt}, nil, []api.Call{snap(0), get(1)}, others)
		x.c.Halt = []int{18 + halt}
		f := check(t, x)
		a := f.run.Answers[1]
		if len(a) != len(others) || a[2].N != want || a[5].N != want || a[7].N != 2 || f.run.Cut {
			t.Errorf("P32.11: a Snap halted behind %d lines: %+v", halt, a)
		}
	}
}

// P32.11, P32.12: writes of a part whose loading is halted wait, for good; reads of it are told, and all else goes on.
func TestWritesWaitForALoading(t *testing.T) {
	takesLong(t)
	s := api.Setup{Parts: 2, Workers: 3, Slots: 40, Leases: 2, Source: pairs(1, 10, far, 20)}
	for halt := 2; halt < 11; halt++ {
		for _, first := range []api.Call{get(1), put(1, 3)} {
			for _, c := range []api.Call{put(1, 5), drop(1), swap(1, 10, 5), many(1, 5), many()} {
				x := mixed{s: s, c: work([]api.Call{first}, []api.Call{c, get(1)}, []api.Call{get(1), snap(0), peek(0, 1), put(far, 6), peek(0, far), trim(0), trim(1), advance(), collect(), get(far), names()})}
				x.c.Turns, x.c.Halt = make([]int, halt), []int{halt}
				run, left := wantModel(t, "P32.11", x)
				a := run.Answers[2]
				if !run.Cut || run.Steps != api.MaxSteps || len(run.Answers[1]) != 0 || len(a) != 11 || a[0].Err != busy || a[2].Err != busy || !a[3].Ok || a[4].N != 20 || a[9].N != 6 || left.states[0] != 1 {
					t.Fatalf("P32.11: %+v behind a loading that is halted: %+v", c, a)
				}
			}
		}
	}
	// Halted behind it, or ahead of it, nobody waits.
	for _, halt := range []int{1, 11, 12} {
		x := mixed{s: s, c: work([]api.Call{get(1)}, []api.Call{put(1, 5), get(1)})}
		x.c.Turns, x.c.Halt = make([]int, halt), []int{halt}
		if run, _ := wantModel(t, "P32.11", x); run.Cut || len(run.Answers[1]) != 2 || run.Answers[1][1].N != 5 {
			t.Errorf("P32.11: halted behind %d lines: %+v", halt, run)
		}
	}
}

// P32.12: every run ends; one that was cut at MaxSteps, and not by its case, has a write that waits for a part whose loading is halted.
func TestEveryRunEnds(t *testing.T) {
	takesLong(t)
	cuts := 0
	for _, how := range []manners{{}, {wild: true}, {busy: true}} {
		mixedPlays(1500, how, func(x mixed) {
			x.c.Until = 0
			run, rows, err := store.Play(x.s, x.c)
			if err != api.OK {
				t.Fatalf("P32.12: %+v: %v", x, err)
			}
			waits := false
			for _, o := range run.Open {
				c := x.c.Work[o.Worker][len(run.Answers[o.Worker])]
				halted := o.Worker < len(x.c.Halt) && x.c.Halt[o.Worker] > 0 && x.c.Halt[o.Worker] < highest
				waits = waits || !halted && c.Kind >= 2 && c.Kind <= 5 && rows[3+target(c, x.s.Parts)][0] == 1
			}
			cuts += bit(run.Cut)
			if run.Cut != waits || run.Cut && run.Steps != api.MaxSteps {
				t.Fatalf("P32.12: %+v: %+v, %v", x, run.Open, rows)
			}
		})
	}
	if cuts < 30 {
		t.Errorf("the cases are too plain: %d", cuts)
	}
}

// P32.12: a call that answered an error changes nothing that the map holds, or a snapshot shows: each of them, alone, and what is told then.
func TestErrorsChangeNothing(t *testing.T) {
	s := api.Setup{Parts: 2, Workers: 1, Slots: 9, Leases: 2, Source: pairs(1, 10, 2, 20, far, 30)}
	r := newReal(t, s).do(t, get(1), get(far), snap(0), put(1, 11), snap(1), name(7, 1))
	tells := func() []api.Answer {
		var list []api.Answer
		for _, c := range []api.Call{get(1), get(2), get(far), peek(0, 1), peek(0, 2), peek(0, far), peekNamed(7, 1), peekNamed(7, 2), names()} {
			list = append(list, r.by(t, c))
		}
		return list
	}
	if free := len(r.Pool().Free()); free != 0 {
		t.Fatalf("%d slots are free", free)
	}
	want := tells()
	for _, c := range []api.Call{
		put(1, 12), put(3, 12), drop(2), swap(1, 11, 12), many(1, 5, 2, 6), many(far, 7), drop(far), swap(1, 10, 12), swap(5, 1, 1), put(-1, 1), many(1, 1, far, 2), many(-1, 1),
		snap(2), snap(0), snap(4), free(2), free(-1), peek(2, 1), peek(0, -1), name(7, 0), name(-1, 0), name(8, 2), unname(8), unname(-1), peekNamed(8, 1), peekNamed(7, -1), trim(2), trim(-1), {Kind: 16},
	} {
		if a := r.by(t, c); a.Err == api.OK || !sameAnswer(a, failed(a.Err)) {
			t.Errorf("P32.12: %+v: %+v", c, a)
		}
		got := tells()
		for i := range got {
			if !sameAnswer(got[i], want[i]) {
				t.Fatalf("P32.12: behind %+v: %+v, want %+v", c, got[i], want[i])
			}
		}
		if is := r.state(); len(is.free) != 0 || is.at[0] != 0 {
			t.Fatalf("P32.12: behind %+v: %+v", c, is)
		}
	}
}
