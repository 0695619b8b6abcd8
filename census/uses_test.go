package census_test

import (
	"slices"
	"testing"

	"skein/api"
	"skein/census"
)

// event: a call of a run that ended.
type event struct {
	worker int
	call   api.Call
	answer api.Answer
}

// events in the order of their last lines.
func events(c api.Case, run api.Run) []event {
	var list []event
	for k, answers := range run.Answers {
		for i, a := range answers {
			list = append(list, event{k, c.Work[k][i], a})
		}
	}
	slices.SortFunc(list, func(a, b event) int { return a.answer.End - b.answer.End })
	return list
}

// history: how all words stood behind each step of a run, told by what the Updates answered alone; an Update stores by its last line.
func history(t *testing.T, x mixed, list []event, steps int) []moment {
	t.Helper()
	var now moment
	for _, v := range x.first {
		now = append(now, stands{value: v})
	}
	told := []moment{now}
	for len(told) <= steps {
		if len(list) > 0 && list[0].answer.End == len(told) {
			e := list[0]
			list = list[1:]
			if e.call.Kind == 1 && e.answer.Err == api.OK {
				now = slices.Clone(now)
				if now[e.worker] = (stands{e.call.A, now[e.worker].number + 1}); now[e.worker].number != e.answer.N {
					t.Fatalf("P25.3: %+v: %+v, behind %v", x, e, now)
				}
			}
		}
		told = append(told, now)
	}
	return told
}

// check holds what a census is for against a run.
func check(t *testing.T, x mixed, counts map[string]int) {
	t.Helper()
	run, words, err := census.Play(x.first, x.c)
	if err != api.OK {
		t.Fatalf("P25.5: %+v: %v", x, err)
	}
	list := events(x.c, run)
	told := history(t, x, list, run.Steps)
	if !sameSeen(words, told[run.Steps].seen()) {
		t.Fatalf("P25.4: %+v: Words %v, want %v", x, words, told[run.Steps])
	}
	var scans []event
	for _, e := range list {
		checkMoment(t, x, e, told[e.answer.Begin:e.answer.End+1])
		checkLines(t, x, e, list, counts)
		if e.call.Kind == 2 {
			scans = append(scans, e)
		}
	}
	checkOrder(t, x, scans, counts)
	checkMine(t, x, run)
}

// checkMoment: what a call tells is how all words stood behind some line of it.
func checkMoment(t *testing.T, x mixed, e event, told []moment) {
	t.Helper()
	fits := func(m moment) bool {
		switch e.call.Kind {
		case 2:
			return sameAnswer(e.answer, sees(m.ints()...))
		case 3:
			return e.answer.Err != api.OK || sameAnswer(e.answer, stood(m[e.call.A].value, m[e.call.A].number))
		case 4:
			return sameAnswer(e.answer, number(m.sum()))
		}
		return true
	}
	if !slices.ContainsFunc(told, fits) {
		t.Fatalf("P25.6: %+v: %+v, want one of %v", x, e, told)
	}
}

// checkLines: how many lines a call has at most, and without any change just.
func checkLines(t *testing.T, x mixed, e event, list []event, counts map[string]int) {
	t.Helper()
	n, lines, refused := len(x.first), e.answer.Own, e.answer.Err != api.OK
	if e.call.Kind == 3 || e.call.Kind < 1 || e.call.Kind > 4 || refused {
		if lines != 1 {
			t.Fatalf("P25.8: %+v: %d lines: %+v", x, lines, e)
		}
		return
	}
	if e.call.Kind == 1 {
		lines--
	}
	most := n * (n + 2)
	if e.worker < n {
		most = n * (n + 1)
	}
	if still := changes(list, e) == 0; still {
		most = 2 * n
	}
	if lines > most || lines < 2*n || lines%n != 0 {
		t.Fatalf("P25.8: %+v: %d lines of a Scan of %d words: %+v", x, lines, n, e)
	}
	if lines == most && lines > 2*n {
		counts["Scans of the most lines"]++
	}
}

// changes: how many Updates of others ended while this call was at work.
func changes(list []event, e event) int {
	n := 0
	for _, u := range list {
		if u.call.Kind == 1 && u.answer.Err == api.OK && u.worker != e.worker && u.answer.End > e.answer.Begin && u.answer.End < e.answer.End {
			n++
		}
	}
	return n
}

func numbersOf(e event) []int { return e.answer.Ints[len(e.answer.Ints)/2:] }

// notAbove tells whether no number of a is above that of b.
func notAbove(a, b []int) bool {
	for k := range a {
		if a[k] > b[k] {
			return false
		}
	}
	return true
}

// checkOrder: of any two Scans the one isn't above the other one; nor is one that ended ahead of the other one's first line.
func checkOrder(t *testing.T, x mixed, scans []event, counts map[string]int) {
	t.Helper()
	for i, a := range scans {
		for _, b := range scans[i+1:] {
			up, down := notAbove(numbersOf(a), numbersOf(b)), notAbove(numbersOf(b), numbersOf(a))
			ahead := a.answer.End < b.answer.Begin
			if !up && !down || ahead && !up {
				t.Fatalf("P25.7: %+v: %+v, %+v", x, a, b)
			}
			switch {
			case ahead && !down:
				counts["Scans behind one another"]++
			case !ahead && up != down:
				counts["Scans beside one another that differ"]++
			}
			if !up {
				counts["Scans that end behind a later one"]++
			}
		}
	}
}

// checkMine: a worker's Scan shows just its own Updates ahead of it.
func checkMine(t *testing.T, x mixed, run api.Run) {
	t.Helper()
	for k, answers := range run.Answers[:min(len(run.Answers), len(x.first))] {
		mine := stands{value: x.first[k]}
		for i, a := range answers {
			switch x.c.Work[k][i].Kind {
			case 1:
				mine = stands{x.c.Work[k][i].A, mine.number + 1}
			case 2:
				if got := (stands{a.Ints[k], a.Ints[len(x.first)+k]}); got != mine {
					t.Fatalf("P25.7: %+v: worker %d's Scan shows %v of its own word, want %v", x, k, got, mine)
				}
			}
		}
	}
}

func wantCounts(t *testing.T, counts map[string]int, more ...string) {
	t.Helper()
	for _, what := range append(more, "Scans of the most lines", "Scans behind one another", "Scans beside one another that differ") {
		if counts[what] < 100 {
			t.Errorf("the cases are too plain: %d %s", counts[what], what)
		}
	}
}

func TestUsesInMixedRuns(t *testing.T) {
	takesLong(t)
	counts := map[string]int{}
	for seed, how := range []manners{{}, {stops: true}, {plain: true}, {wild: true, stops: true}} {
		mixedRuns(30+seed, 5000, how, func(x mixed) { check(t, x, counts) })
	}
	wantCounts(t, counts, "Scans that end behind a later one")
}

// Small runs of two workers and of three in many orders, halted at every line.
func TestUsesInEveryOrder(t *testing.T) {
	takesLong(t)
	counts := map[string]int{}
	for _, x := range everyOrders() {
		c := api.Case{Work: x.calls}
		orders(len(x.calls), x.turns, func(list []int) {
			c.Turns, c.Halt = list, nil
			check(t, mixed{x.first, c}, counts)
		})
		n := len(x.first)
		orders(len(x.calls), 6, func(list []int) {
			// Turns come by whole collects as well: so words move twice in one Scan.
			var long []int
			for _, k := range list {
				long = append(long, slices.Repeat([]int{k}, n)...)
			}
			for halt := 1; halt <= 2*n+2; halt++ {
				for _, c.Turns = range [][]int{list, long} {
					for k := range x.calls {
						c.Halt = append(make([]int, k), halt)
						check(t, mixed{x.first, c}, counts)
					}
				}
			}
		})
	}
	wantCounts(t, counts)
}

// By whole collects and whole Updates of others between them: every order.
func TestUsesByCollects(t *testing.T) {
	takesLong(t)
	counts := map[string]int{}
	for _, x := range []struct {
		first []int
		calls [][]api.Call
		turns int
	}{
		{[]int{5, 7}, [][]api.Call{{update(1), update(2), update(3)}, {update(11), update(12), scan()}, {scan(), scan()}}, 8},
		{[]int{5, 7}, [][]api.Call{{update(1), update(2), update(3)}, {scan(), update(11), scan()}, {scan(), scan(), scan()}}, 8},
		{[]int{5, 7, 9}, [][]api.Call{{update(1), update(2), scan()}, {update(11), update(12), scan()}, {scan(), update(21), scan()}}, 8},
	} {
		n := len(x.first)
		orders(len(x.calls), x.turns, func(list []int) {
			for _, times := range [][]int{{n, n, n}, {2*n + 1, 2*n + 1, n}, {2*n + 1, n, n}} {
				c := api.Case{Work: x.calls}
				for _, k := range list {
					c.Turns = append(c.Turns, slices.Repeat([]int{k}, times[k])...)
				}
				check(t, mixed{x.first, c}, counts)
			}
		})
	}
	wantCounts(t, counts)
}

// others: of n workers each but one Updates as often as it can.
func others(n, but int) [][]api.Call {
	calls := make([][]api.Call, max(n, but+1))
	for k := range n {
		if k != but {
			calls[k] = slices.Repeat([]api.Call{update(k)}, 9)
		}
	}
	return calls
}

// The most lines that a Scan can have: between two collects of it just one word moves, each time another one; then one moves again.
func TestMostLines(t *testing.T) {
	for n := 1; n <= 8; n++ {
		for who := range min(n+1, 8) {
			for _, call := range []api.Call{scan(), total(), update(7)} {
				if call.Kind == 1 && who == n {
					continue
				}
				calls := others(n, who)
				calls[who] = []api.Call{call}
				lines := []int{who, n}
				most := n * (n + 2)
				if who < n {
					most = n * (n + 1)
				}
				for done := n; done < most; done += n {
					if mover, any := nextMover(n, who, done/n-1); any {
						lines = append(lines, mover, 2*n+1)
					}
					lines = append(lines, who, n)
				}
				if call.Kind == 1 {
					lines, most = append(lines, who, 1), most+1
				}
				c := stepwise(work(calls...), lines...)
				run, m := wantModel(t, "P25.8: the most lines", firsts(n), c)
				a := run.Answers[who]
				if len(a) != 1 || a[0].Own != most || a[0].End != run.Steps {
					t.Errorf("P25.8: of %d words %+v of worker %d: %+v, want %d lines", n, call, who, a, most)
				}
				if alone := n == 1 && who == 0; !alone && m.lent != 1 {
					t.Errorf("P25.8: of %d words %+v of worker %d: %d views were told", n, call, who, m.lent)
				}
			}
		}
	}
}

// nextMover: the word that moves behind this collect, and whether there is another word at all.
func nextMover(n, but, collect int) (int, bool) {
	var movers []int
	for k := range n {
		if k != but {
			movers = append(movers, k)
		}
	}
	if len(movers) == 0 {
		return 0, false
	}
	return movers[collect%len(movers)], true
}

// Whatever others do: they Update as often as they can, in any order, and are halted anywhere; a Scan ends by that many lines.
func TestLinesAmongOthers(t *testing.T) {
	takesLong(t)
	r := mixer(9)
	for n := 1; n <= 8; n++ {
		for who := range min(n+1, 8) {
			for round := range 40 {
				x := mixed{first: firsts(n)}
				x.c.Work = others(n, who)
				x.c.Work[who] = []api.Call{scan(), total(), update(1), scan()}
				for range r.below(100) {
					times := 1
					if round%2 == 0 {
						times = r.below(2*n + 4)
					}
					x.c.Turns = append(x.c.Turns, slices.Repeat([]int{r.below(8)}, times)...)
				}
				for k := range x.c.Work {
					if round%4 > 1 && k != who && r.below(3) == 0 {
						x.c.Halt = append(x.c.Halt, make([]int, k-len(x.c.Halt))...)
						x.c.Halt = append(x.c.Halt, 1+r.below(6*n))
					}
				}
				check(t, x, map[string]int{})
				if run, _, _ := census.Play(x.first, x.c); run.Cut || len(run.Answers[who]) != 4 {
					t.Fatalf("P25.8: %+v: %+v", x, run)
				}
			}
		}
	}
}

// Behind a worker that was halted in the midst of an Update, at any line, the others do all their calls by as few lines as ever.
func TestOthersGoOnBehindAHalt(t *testing.T) {
	for n := 2; n <= 8; n++ {
		for halt := 1; halt <= 2*n+1; halt++ {
			c := api.Case{Work: [][]api.Call{{update(1), update(2)}, {scan(), update(11), scan(), total(), read(0)}}}
			c.Turns, c.Halt = make([]int, halt), []int{halt}
			run, _ := wantModel(t, "P25.8: behind a halt", firsts(n), c)
			for i, lines := range []int{2 * n, 2*n + 1, 2 * n, 2 * n, 1} {
				if a := run.Answers[1]; run.Cut || len(a) != 5 || a[i].Own != lines {
					t.Errorf("P25.8: of %d words, halted behind %d lines: %+v", n, halt, run)
				}
			}
		}
	}
}

// Without others a Scan, a Total, an Update have their fewest lines: also beside those that change nothing.
func TestFewestLines(t *testing.T) {
	for n := 1; n <= 8; n++ {
		for k := range n {
			c := by(k, scan(), update(1), total(), update(2), scan())
			run, _ := wantModel(t, "P25.8: alone", firsts(n), c)
			for i, lines := range []int{2 * n, 2*n + 1, 2 * n, 2*n + 1, 2 * n} {
				if a := run.Answers[k][i]; a.Own != lines {
					t.Errorf("P25.8: of %d words worker %d, without others: %+v, want %d lines", n, k, a, lines)
				}
			}
			still := []api.Call{scan(), total(), read(0), read(-1), scan(), {}}
			c.Work = slices.Repeat([][]api.Call{still}, 8)
			run, _ = wantModel(t, "P25.8: nobody changes anything", firsts(n), c)
			for j, answers := range run.Answers {
				for i, lines := range []int{2 * n, 2 * n, 1, 1, 2 * n, 1} {
					if a := answers[i]; a.Own != lines {
						t.Errorf("P25.8: of %d words worker %d, without changes: %+v, want %d lines", n, j, a, lines)
					}
				}
			}
		}
	}
}
