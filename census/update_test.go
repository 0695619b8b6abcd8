package census_test

import (
	"slices"
	"testing"

	"skein/api"
	"skein/crew"
)

// Whose word is there changes it, and no other one: 2 n lines of the Scan, and the store.
func TestUpdate(t *testing.T) {
	for n := 1; n <= 8; n++ {
		for k := range n {
			first := firsts(n)
			want := momentOf(newCounted(first).words)
			want[k] = stands{-3, 2}
			run, _ := wantModel(t, "P25.3: two Updates", first, by(k, update(9), update(-3), scan()))
			for i, a := range []api.Answer{own(2*n+1, number(1)), own(2*n+1, number(2)), own(2*n, sees(want.ints()...))} {
				if got := run.Answers[k][i]; !sameAnswer(got, a) || got.Own != a.Own {
					t.Errorf("P25.3: of %d words that of worker %d: %+v, want %+v", n, k, got, a)
				}
			}
		}
	}
}

// Who has no word is refused by one line, and nothing has changed.
func TestUpdateWithoutAWord(t *testing.T) {
	for n := 1; n < 8; n++ {
		for k := n; k < 8; k++ {
			first := firsts(n)
			run, m := wantModel(t, "P25.3: no word", first, by(k, update(1), update(0), scan(), update(highest), read(0), total()))
			for _, i := range []int{0, 1, 3} {
				if a := run.Answers[k][i]; !sameAnswer(a, failed(api.ErrCensusWorker)) || a.Own != 1 {
					t.Errorf("P25.3: of %d words worker %d: %+v", n, k, a)
				}
			}
			if a := run.Answers[k][2]; !sameAnswer(a, sees(slices.Concat(first, make([]int, n))...)) || a.Own != 2*n {
				t.Errorf("P25.2: of %d words worker %d scans: %+v", n, k, a)
			}
			if got := momentOf(m.words).seen(); !sameSeen(got, api.Seen{Values: first, Numbers: make([]int, n)}) {
				t.Errorf("P25.3: of %d words worker %d changes %v", n, k, got)
			}
		}
	}
}

// The store is the line behind the Scan: ahead of it nobody sees anything of the Update.
func TestUpdateLineByLine(t *testing.T) {
	for n := 1; n <= 8; n++ {
		for k := range n {
			for at := 1; at <= 2*n+1; at++ {
				for _, cut := range []bool{false, true} {
					c := by(k, update(77), update(78))
					c.Halt = append(make([]int, k), at)
					if cut {
						c.Halt, c.Until = nil, at
					}
					run, m := wantModel(t, "P25.3: line by line", firsts(n), c)
					want, ended := stands{100 * (k + 1), 0}, 0
					if at > 2*n {
						want, ended = stands{77, 1}, 1
					}
					if m.words[k].stands != want || len(run.Answers[k]) != ended || run.Cut != cut || run.Steps != at {
						t.Errorf("P25.3: of %d words that of worker %d, behind %d lines: %+v: %+v", n, k, at, m.words, run)
					}
				}
			}
		}
	}
}

// What an Update stores beside its value is what its own Scan saw: with the number ahead of its own, and with what came while it was at work.
func TestViewThatIsStored(t *testing.T) {
	first := []int{5, 7}
	one := []api.Call{update(11), update(12), update(13)}
	for _, x := range []struct {
		name  string
		lines []int // from the beginning of word 0's second Update on
		sees  []int
	}{
		{"nothing else", []int{0, 5}, []int{1, 7, 1, 0}},
		{"another word, changed ahead of the Update", []int{1, 5, 0, 5}, []int{1, 11, 1, 1}},
		{"another word, changed behind its first load", []int{0, 2, 1, 5, 0, 5}, []int{1, 11, 1, 1}},
		{"another word, changed behind its last load", []int{0, 4, 1, 5, 0, 1}, []int{1, 7, 1, 0}},
		{"another word, that moved twice", []int{0, 2, 1, 5, 0, 2, 1, 5, 0, 3}, []int{1, 11, 1, 1}},
	} {
		list := slices.Concat([]int{2, 2, 0, 5, 2, 2}, x.lines, []int{2, 2})
		c := stepwise(work([]api.Call{update(1), update(2)}, one, []api.Call{scan()}), list...)
		run, _ := wantModel(t, "P25.3: "+x.name, first, c)
		if a := run.Answers[2]; len(run.Answers[0]) != 2 || len(a) != 1 || !sameAnswer(a[0], sees(x.sees...)) {
			t.Errorf("P25.3: %s: %+v, want %v", x.name, a, x.sees)
		}
	}
}

// Values of any size are as they were given; a sum goes round as ints do.
func TestValuesOfAnySize(t *testing.T) {
	for _, a := range farNumbers {
		for _, b := range farNumbers {
			first := []int{a, 0, b}
			run, _ := wantModel(t, "P25.3: any value", first, by(1, scan(), update(b), update(a), read(0), read(1), read(2), total()))
			for i, want := range []api.Answer{sees(a, 0, b, 0, 0, 0), number(1), number(2), stood(a, 0), stood(a, 2), stood(b, 0), number(a + a + b)} {
				if got := run.Answers[1][i]; !sameAnswer(got, want) {
					t.Errorf("P25.3: values %d and %d: %+v, want %+v", a, b, got, want)
				}
			}
		}
	}
}

// Each word is read by one line, by whoever comes; what is no word is refused by one.
func TestRead(t *testing.T) {
	for n := 1; n <= 8; n++ {
		b := newReal(t, firsts(n))
		var calls []api.Call
		var want []api.Answer
		for k, v := range firsts(n) {
			if k > 0 { // the word k was changed k times
				v = -k
				crew.Run(by(k, slices.Repeat([]api.Call{update(v)}, k)...), b)
			}
			calls, want = append(calls, read(k)), append(want, stood(v, k))
		}
		for _, k := range noWords(n) {
			calls, want = append(calls, read(k)), append(want, failed(api.ErrCensusWorker))
		}
		before := b.words()[0]
		for k := range 8 {
			run, err := crew.Run(by(k, calls...), b)
			if err != api.OK || len(run.Answers[k]) != len(want) {
				t.Fatalf("P25.4: of %d words by worker %d: %+v, %v", n, k, run, err)
			}
			for i, a := range run.Answers[k] {
				if !sameAnswer(a, want[i]) || a.Own != 1 {
					t.Errorf("P25.4: of %d words by worker %d: %+v: %+v, want %+v", n, k, calls[i], a, want[i])
				}
			}
		}
		if after := b.words()[0]; !sameSeen(before, after) {
			t.Errorf("P25.4: Reads change %v to %v", before, after)
		}
	}
}

// A Read tells how the word stands at its line, whoever is in the midst of what.
func TestReadAmongOthers(t *testing.T) {
	c := stepwise(work([]api.Call{update(1), update(2)}, []api.Call{read(0), read(0), read(0), read(1)}), 0, 4, 1, 1, 0, 1, 1, 1, 0, 5, 1, 2)
	run, _ := wantModel(t, "P25.4: among others", []int{5, 7}, c)
	for i, want := range []api.Answer{stood(5, 0), stood(1, 1), stood(2, 2), stood(7, 0)} {
		if a := run.Answers[1][i]; !sameAnswer(a, want) || a.Own != 1 {
			t.Errorf("P25.4: among others: Read %d: %+v, want %+v", i, a, want)
		}
	}
}

// A Total is the sum of a Scan's values, by a Scan's lines, of any worker; also of values below 0.
func TestTotal(t *testing.T) {
	for _, first := range [][]int{{0}, {-5}, {5, -7}, {-5, -7, -9}, {highest, 1}, {lowest, -1}, {lowest, highest}, {lowest, lowest}, firsts(8), farNumbers[:8]} {
		sum := 0
		for _, v := range first {
			sum += v
		}
		for k := range 8 {
			run, _ := wantModel(t, "P25.4: Total", first, by(k, total()))
			if a := run.Answers[k][0]; !sameAnswer(a, number(sum)) || a.Own != 2*len(first) {
				t.Errorf("P25.4: Total of %v: %+v, want %d", first, a, sum)
			}
		}
	}
}

// Words tells what is there behind calls, without a line; so does what is refused, by one of its own.
func TestWordsHasNoLine(t *testing.T) {
	b := newReal(t, []int{5, 7})
	run, err := crew.Run(by(1, update(6)), does(func(w *crew.Worker, c api.Call) api.Answer {
		b[0].Words()
		a := b.Do(w, c)
		a.Ints = slices.Concat(b[0].Words().Values, b[0].Words().Numbers)
		return a
	}))
	want := api.Answer{Begin: 1, End: 5, Own: 5, Ok: true, N: 1, Ints: []int{5, 6, 0, 1}}
	if err != api.OK || !sameRun(run, api.Run{Steps: 5, Answers: [][]api.Answer{nil, {want}}}) {
		t.Errorf("P25.4: Words: %+v, %v", run, err)
	}
}

// Each call's lines are its own, also where one call of a run does several of a census's: what is refused has one as well.
func TestLinesOfSeveralCalls(t *testing.T) {
	for _, x := range []struct {
		call  api.Call
		k     int
		lines int
		err   api.Errno
	}{
		{update(1), 0, 3, api.OK}, {scan(), 0, 2, api.OK}, {total(), 0, 2, api.OK}, {read(0), 0, 1, api.OK}, {scan(), 1, 2, api.OK}, {read(0), 1, 1, api.OK},
		{update(1), 1, 1, api.ErrCensusWorker}, {read(-1), 0, 1, api.ErrCensusWorker}, {read(1), 0, 1, api.ErrCensusWorker}, {read(8), 1, 1, api.ErrCensusWorker},
	} {
		b := newReal(t, []int{5})
		run, err := crew.Run(by(x.k, x.call), does(func(w *crew.Worker, c api.Call) api.Answer {
			b.Do(w, c)
			return b.Do(w, c)
		}))
		if err != api.OK || run.Steps != 2*x.lines || run.Answers[x.k][0].Err != x.err {
			t.Errorf("P25.2, P25.3, P25.4: %+v, twice: %+v, %v", x, run, err)
		}
	}
}

// Alone all calls are worker 0's, all lines of each at once.
func TestAlone(t *testing.T) {
	for n := 1; n <= 8; n++ {
		b, m := newReal(t, firsts(n)), newModel(firsts(n))
		r := mixer(n)
		for range 200 {
			c := r.call(n, manners{wild: true})
			if a, want := b.Do(nil, c), m.alone(c); !sameAnswer(a, want) || !slices.EqualFunc(b.words(), m.words(), sameSeen) {
				t.Fatalf("rule 10: of %d words: %+v: %+v, %v, want %+v, %v", n, c, a, b.words(), want, m.words())
			}
		}
	}
}

// What is done alone and what worker 0 does in runs goes on from one another.
func TestAloneAndRuns(t *testing.T) {
	b := newReal(t, []int{5, 7})
	for i := range 5 {
		if n, err := b[0].Update(nil, 10*i); n != 3*i+1 || err != api.OK {
			t.Errorf("P25.3: alone: %d, %v", n, err)
		}
		run, _ := crew.Run(work([]api.Call{update(i), update(-i)}, []api.Call{update(i)}), b)
		if a := run.Answers; a[0][0].N != 3*i+2 || a[0][1].N != 3*i+3 || a[1][0].N != i+1 {
			t.Errorf("P25.3: a run behind calls alone: %+v", a)
		}
	}
	if got := b[0].Scan(nil); !sameSeen(got, api.Seen{Values: []int{-4, 4}, Numbers: []int{15, 5}}) {
		t.Errorf("P25.3: alone, and runs: %v", got)
	}
}
