package census_test

import (
	"slices"
	"testing"

	"skein/api"
	"skein/census"
)

func TestNew(t *testing.T) {
	for n := 1; n <= 8; n++ {
		for _, first := range [][]int{firsts(n), make([]int, n), farNumbers[:n], farNumbers[len(farNumbers)-n:]} {
			c, err := census.New(first)
			if err != api.OK || c == nil {
				t.Fatalf("P25.1: New(%v): %v, %v", first, c, err)
			}
			want := api.Seen{Values: first, Numbers: make([]int, n)}
			if got := c.Words(); !sameSeen(got, want) {
				t.Errorf("P25.1: New(%v): Words %v", first, got)
			}
			if got := c.Scan(nil); !sameSeen(got, want) {
				t.Errorf("P25.1: New(%v): Scan %v", first, got)
			}
			for k, v := range first {
				if value, number, err := c.Read(nil, k); value != v || number != 0 || err != api.OK {
					t.Errorf("P25.1: New(%v): Read(%d): %d, %d, %v", first, k, value, number, err)
				}
			}
		}
	}
}

func TestNewRefuses(t *testing.T) {
	for _, first := range [][]int{nil, {}, make([]int, 0, 8), make([]int, 9), make([]int, 10), firsts(9), firsts(16), make([]int, 256), make([]int, 1<<16)} {
		if c, err := census.New(first); c != nil || err != api.ErrCensusMany {
			t.Errorf("P25.1: New of %d: %v, %v", len(first), c, err)
		}
	}
}

// course: a Scan of one worker among others' lines; what it answers, and by how many lines.
type course struct {
	name   string
	first  []int
	others [][]api.Call // by worker; the last one of all scans
	lines  []int        // of pairs a worker, and how many
	own    int
	sees   []int
}

func (x course) scanner() int { return len(x.others) }

func courses() []course {
	two, three := []int{5, 7}, []int{5, 7, 9}
	twice := func(v int) []api.Call { return []api.Call{update(v), update(v + 1)} }
	thrice := func(v int) []api.Call { return append(twice(v), update(v+2)) }
	return []course{
		{"two collects that are alike", two, [][]api.Call{nil, nil}, []int{2, 4}, 4, []int{5, 7, 0, 0}},
		{"two that are alike behind an Update", two, [][]api.Call{twice(1), nil}, []int{0, 5, 2, 4}, 4, []int{1, 7, 1, 0}},
		{"one word, two that are alike", []int{5}, [][]api.Call{nil}, []int{1, 2}, 2, []int{5, 0}},
		{"a word that moves once", two, [][]api.Call{twice(1), nil}, []int{2, 2, 0, 5, 2, 4}, 6, []int{1, 7, 1, 0}},
		{"the last word moves once", two, [][]api.Call{nil, twice(1)}, []int{2, 2, 1, 5, 2, 4}, 6, []int{5, 1, 0, 1}},
		{"a word that moves twice between two collects", two, [][]api.Call{twice(1), nil}, []int{2, 2, 0, 10, 2, 4}, 6, []int{2, 7, 2, 0}},
		{"a word that moves twice between two collects, and then once", two, [][]api.Call{thrice(1), nil}, []int{2, 2, 0, 10, 2, 2, 0, 5, 2, 2}, 6, []int{2, 7, 2, 0}},
		{"a word that moves twice", two, [][]api.Call{twice(1), nil}, []int{2, 2, 0, 5, 2, 2, 0, 5, 2, 2}, 6, []int{1, 7, 1, 0}},
		{"the last word moves twice", two, [][]api.Call{nil, twice(1)}, []int{2, 2, 1, 5, 2, 2, 1, 5, 2, 2}, 6, []int{5, 1, 0, 1}},
		{"one word that moves twice", []int{5}, [][]api.Call{twice(1)}, []int{1, 1, 0, 3, 1, 1, 0, 3, 1, 1}, 3, []int{1, 1}},
		{"two words that move by turns", two, [][]api.Call{twice(1), twice(11)}, []int{2, 2, 0, 5, 2, 2, 1, 5, 2, 2, 0, 5, 2, 2}, 8, []int{1, 11, 1, 1}},
		{"two words that move by turns, once", two, [][]api.Call{twice(1), twice(11)}, []int{2, 2, 0, 5, 2, 2, 1, 5, 2, 4}, 8, []int{1, 11, 1, 1}},
		{"a word that rests for a collect between its moves", two, [][]api.Call{twice(1), thrice(11)}, []int{2, 2, 0, 5, 2, 2, 1, 5, 2, 2, 1, 5, 2, 2}, 8, []int{1, 11, 1, 1}},
		{"a word that moved once, and once between its own loads", two, [][]api.Call{twice(1), nil}, []int{2, 2, 0, 5, 2, 1, 0, 5, 2, 3}, 6, []int{1, 7, 1, 0}},
		{"a word that moves between its own two loads", two, [][]api.Call{twice(1), nil}, []int{2, 1, 0, 5, 2, 5}, 6, []int{1, 7, 1, 0}},
		{"a word that moves ahead of its first load", two, [][]api.Call{nil, twice(1)}, []int{2, 1, 1, 5, 2, 3}, 4, []int{5, 1, 0, 1}},
		{"a word that moves behind its last load", two, [][]api.Call{twice(1), nil}, []int{2, 3, 0, 5, 2, 1}, 4, []int{5, 7, 0, 0}},
		{"the last word moves ahead of its last load", two, [][]api.Call{nil, twice(1)}, []int{2, 3, 1, 5, 2, 3}, 6, []int{5, 1, 0, 1}},
		{"a word moves behind its load, another one ahead of it", three, [][]api.Call{twice(1), twice(11), twice(21)}, []int{3, 4, 0, 7, 3, 1, 2, 7, 3, 7}, 12, []int{1, 7, 21, 1, 0, 1}},
		{"two words move at once", two, [][]api.Call{twice(1), twice(11)}, []int{2, 2, 0, 5, 1, 5, 2, 4}, 6, []int{1, 11, 1, 1}},
		{"two words move twice at once: that of the lower one is told", two, [][]api.Call{twice(1), twice(11)}, []int{2, 2, 0, 5, 1, 5, 2, 2, 0, 5, 1, 5, 2, 2}, 6, []int{1, 11, 1, 1}},
		{"two words move twice at once, the last one ahead", two, [][]api.Call{twice(1), twice(11)}, []int{2, 2, 0, 5, 1, 5, 2, 2, 1, 5, 0, 5, 2, 2}, 6, []int{1, 12, 1, 2}},
		{"the first one moves once where the last one moves twice", two, [][]api.Call{twice(1), twice(11)}, []int{2, 2, 1, 5, 2, 2, 1, 5, 0, 5, 2, 2}, 6, []int{5, 11, 0, 1}},
		{"of three words the last two move twice: that of the middle one is told", three, [][]api.Call{twice(1), twice(11), twice(21)},
			[]int{3, 3, 1, 7, 2, 7, 3, 3, 2, 7, 1, 7, 0, 7, 3, 3}, 9, []int{5, 11, 22, 0, 1, 2}},
		{"of three words the first moves once at last, the last one twice", three, [][]api.Call{twice(1), twice(11), twice(21)},
			[]int{3, 3, 2, 7, 3, 3, 1, 7, 3, 3, 0, 7, 2, 7, 3, 3}, 12, []int{1, 11, 21, 1, 1, 1}},
	}
}

// The lines of a Scan, one by one, and what it answers.
func TestScanLineByLine(t *testing.T) {
	for _, x := range courses() {
		k := x.scanner()
		c := stepwise(work(append(slices.Clone(x.others), []api.Call{scan()})...), x.lines...)
		run, _ := wantModel(t, "P25.2: "+x.name, x.first, c)
		if a := run.Answers[k]; len(a) != 1 || !sameAnswer(a[0], sees(x.sees...)) || a[0].Own != x.own || a[0].End != run.Steps {
			t.Errorf("P25.2: %s: %+v, want %v by %d lines", x.name, a, x.sees, x.own)
		}
		// A line less, and it hasn't ended.
		c.Until--
		run, _ = wantModel(t, "P25.2: "+x.name, x.first, c)
		if a := run.Answers[k]; len(a) != 0 || !slices.Contains(run.Open, api.Open{Worker: k, Begin: slices.Index(c.Turns, k) + 1, Own: x.own - 1}) {
			t.Errorf("P25.2: %s, a line less: %+v", x.name, run)
		}
		// A Total sums just that up, by the same lines.
		c.Until++
		c.Work[k] = []api.Call{total(), scan()}
		run, _ = wantModel(t, "P25.4: "+x.name, x.first, c)
		sum := 0
		for _, v := range x.sees[:len(x.first)] {
			sum += v
		}
		if a := run.Answers[k]; len(a) != 1 || !sameAnswer(a[0], number(sum)) || a[0].Own != x.own {
			t.Errorf("P25.4: %s: a Total: %+v, want %d by %d lines", x.name, a, sum, x.own)
		}
	}
}

// The view that is told is that of the word as it was collected last: not the one that the word had when it was found to have moved first, and not what its worker stores behind that load.
func TestWhichView(t *testing.T) {
	first := []int{5, 7}
	zero := []api.Call{update(1), update(2), update(3)}
	one := []api.Call{update(11), update(12)}
	// Word 1 moves behind word 0's first Update: the view of the first one hasn't that.
	c := stepwise(work(zero, one, []api.Call{scan()}), 2, 2, 0, 5, 2, 2, 1, 5, 0, 5, 2, 2)
	run, m := wantModel(t, "P25.2: which view", first, c)
	if a := run.Answers[2]; len(a) != 1 || !sameAnswer(a[0], sees(1, 11, 1, 1)) {
		t.Errorf("P25.2: the view in b: %+v", a)
	}
	if m.lent != 1 {
		t.Errorf("P25.2: the view in b: %d views were told", m.lent)
	}
	// Between the load of word 0 and that of word 1 word 0 moves once more.
	c = stepwise(work(zero, one, []api.Call{scan()}), 2, 2, 0, 5, 2, 2, 1, 5, 0, 5, 2, 1, 0, 5, 2, 1)
	run, _ = wantModel(t, "P25.2: which view", first, c)
	if a := run.Answers[2]; len(a) != 1 || !sameAnswer(a[0], sees(1, 11, 1, 1)) {
		t.Errorf("P25.2: the view in b, and a store behind its load: %+v", a)
	}
	// A view that was told itself: what word 0 stores at last it was told by word 1, which moved twice in its Scan.
	c = stepwise(work([]api.Call{update(1), update(2)}, []api.Call{update(11), update(12), update(13)}, []api.Call{scan()}),
		2, 2, 0, 5, 2, 2, // word 0 has moved once
		0, 2, 1, 5, 0, 2, 1, 5, 0, 2, // word 0's second Scan is told what word 1 saw: (1, 11)
		1, 5, 0, 1, 2, 2)
	run, m = wantModel(t, "P25.2: which view", first, c)
	if a := run.Answers[2]; len(a) != 1 || !sameAnswer(a[0], sees(1, 11, 1, 1)) || m.lent != 2 {
		t.Errorf("P25.2: a view that was told itself: %+v, %d were told", a, m.lent)
	}
}

// An Update of the value that is there is a move as well as another one; one that brings an old value back too.
func TestNumbersDecide(t *testing.T) {
	first := []int{5, 7}
	same := []api.Call{update(5), update(5)}
	c := stepwise(work(same, nil, []api.Call{scan()}), 2, 2, 0, 5, 2, 4)
	run, _ := wantModel(t, "P25.2: numbers decide", first, c)
	if a := run.Answers[2]; len(a) != 1 || !sameAnswer(a[0], sees(5, 7, 1, 0)) || a[0].Own != 6 {
		t.Errorf("P25.2: an Update of the same value: %+v", a)
	}
	c = stepwise(work(same, nil, []api.Call{scan()}), 2, 2, 0, 5, 2, 2, 0, 5, 2, 2)
	run, _ = wantModel(t, "P25.2: numbers decide", first, c)
	if a := run.Answers[2]; len(a) != 1 || !sameAnswer(a[0], sees(5, 7, 1, 0)) || a[0].Own != 6 {
		t.Errorf("P25.2: two Updates of the same value: %+v", a)
	}
	c = stepwise(work([]api.Call{update(1), update(5)}, nil, []api.Call{scan()}), 2, 2, 0, 10, 2, 4)
	run, _ = wantModel(t, "P25.2: numbers decide", first, c)
	if a := run.Answers[2]; len(a) != 1 || !sameAnswer(a[0], sees(5, 7, 2, 0)) || a[0].Own != 6 {
		t.Errorf("P25.2: an Update that brings a value back: %+v", a)
	}
}

// What moved in one Scan has not moved in the next one of the same worker.
func TestMovesAreOfOneScan(t *testing.T) {
	first := []int{5, 7}
	c := stepwise(work([]api.Call{update(1), update(2)}, nil, []api.Call{scan(), scan()}), 2, 2, 0, 5, 2, 4, 2, 2, 0, 5, 2, 4)
	run, m := wantModel(t, "P25.2: moves are of one Scan", first, c)
	if a := run.Answers[2]; len(a) != 2 || !sameAnswer(a[0], sees(1, 7, 1, 0)) || !sameAnswer(a[1], sees(2, 7, 2, 0)) || a[0].Own != 6 || a[1].Own != 6 || m.lent != 0 {
		t.Errorf("P25.2: moves are of one Scan: %+v", a)
	}
	// Nor have they in that of another worker that is at work at the same time.
	c = stepwise(work([]api.Call{update(1), update(2)}, nil, []api.Call{scan()}, []api.Call{scan()}), 2, 2, 0, 5, 2, 2, 3, 2, 0, 5, 3, 4, 2, 2)
	run, m = wantModel(t, "P25.2: moves are of one Scan", first, c)
	if a, b := run.Answers[2], run.Answers[3]; len(a) != 1 || len(b) != 1 || !sameAnswer(a[0], sees(1, 7, 1, 0)) || !sameAnswer(b[0], sees(2, 7, 2, 0)) || m.lent != 1 {
		t.Errorf("P25.2: moves are of one Scan: %+v, %+v", a, b)
	}
}
