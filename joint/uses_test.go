package joint_test

import (
	"slices"
	"testing"

	"skein/api"
)

func TestMomentsInMixedRuns(t *testing.T) {
	takesLong(t)
	for seed, how := range []manners{{}, {stops: true}, {wild: true, stops: true}} {
		mixedRuns(30+seed, 2500, how, func(x mixed) { wantMoments(t, x) })
	}
}

// Of Moves alone the sum of all cells is the same always.
func TestSums(t *testing.T) {
	takesLong(t)
	looks := 0
	for seed, how := range []manners{{moves: true}, {moves: true, stops: true}} {
		mixedRuns(40+seed, 2500, how, func(x mixed) {
			wantMoments(t, x)
			looks += wantSums(t, x)
		})
	}
	if looks < 1000 {
		t.Errorf("the cases are too plain: %d Looks", looks)
	}
}

// order: calls of which so many turns come in every order.
type order struct {
	first []int
	calls [][]api.Call
	turns int
}

func everyOrders() []order {
	up := func(c, v int) api.Call { return change(to(c, v, v+1)) }
	return []order{
		{[]int{5, 7}, [][]api.Call{{move(0, 1, 2)}, {move(1, 0, 3), look()}}, 11},
		{[]int{5, 7}, [][]api.Call{{change(to(0, 5, 6), to(1, 7, 8))}, {change(to(1, 7, 9), to(0, 5, 4)), read(0)}}, 11},
		{[]int{5, 7}, [][]api.Call{{up(0, 5), up(0, 6)}, {move(0, 1, 5), look()}}, 11},
		{[]int{5}, [][]api.Call{{up(0, 5), up(0, 6), read(0)}, {up(0, 5), change(to(0, 6, 5)), look()}}, 11},
		{[]int{5, 7}, [][]api.Call{{look(), look()}, {move(0, 1, 5), move(1, 0, 12)}}, 11},
		{[]int{1, 1}, [][]api.Call{{move(0, 1, 1)}, {move(1, 0, 2)}, {look(), read(0)}}, 8},
		{[]int{5, 7, 9}, [][]api.Call{{change(to(0, 5, 6), to(1, 7, 8))}, {change(to(1, 7, 1), to(2, 9, 2))}, {change(to(2, 9, 3), to(0, 5, 4))}}, 8},
		{[]int{5, 7, 9}, [][]api.Call{{move(0, 1, 1)}, {move(1, 2, 1)}, {move(2, 0, 1), look()}}, 8},
	}
}

// Small runs of two workers and of three in many orders: by lines, and by some lines at a time.
func TestEveryOrder(t *testing.T) {
	takesLong(t)
	ways := map[string]int{}
	for _, x := range everyOrders() {
		orders(len(x.calls), x.turns, func(list []int) {
			_, m := wantModel(t, "every order", x.first, api.Case{Work: x.calls, Turns: list})
			addWays(ways, m.ways)
			wantOrder(t, x.first, api.Case{Work: x.calls, Turns: list})
		})
		for _, times := range []int{2, 3, 5} {
			orders(len(x.calls), 7, func(list []int) {
				var long []int
				for _, k := range list {
					long = append(long, slices.Repeat([]int{k}, times)...)
				}
				_, m := wantModel(t, "every order", x.first, api.Case{Work: x.calls, Turns: long})
				addWays(ways, m.ways)
				wantOrder(t, x.first, api.Case{Work: x.calls, Turns: long})
			})
		}
	}
	for _, name := range []string{"help 2 deep", "3: another one", "A again", "4: from 1 to 1", "4: from 2 to 2", "4: from 1 to 2", "6: 2, won"} {
		if ways[name] < 100 {
			t.Errorf("the cases are too plain: %d %s", ways[name], name)
		}
	}
}

// haltCases: a worker's call, and what others do beside it.
func haltCases() []order {
	others := [][]api.Call{{move(0, 1, 1), look(), change(to(2, 9, 1)), read(0), read(1), read(2)}, {look(), move(2, 0, 1), change(to(0, 5, 4), to(1, 7, 8)), look()}}
	var list []order
	for _, c := range []api.Call{
		change(to(0, 5, 6)), change(to(2, 9, 8), to(0, 5, 6)), change(to(0, 5, 6), to(1, 7, 8), to(2, 9, 10)), change(to(0, 5, 6), to(1, 1, 8)), move(0, 1, 2), move(2, 0, 9), move(1, 2, 0), look(), read(0),
	} {
		list = append(list, order{[]int{5, 7, 9}, append([][]api.Call{{c, move(0, 2, 1)}}, others...), 4})
	}
	return list
}

// A worker that is halted at any line: the others do all their calls, and what it began is done wholly or not at all.
func TestHaltedAtEveryLine(t *testing.T) {
	takesLong(t)
	undone, done := 0, 0
	for _, x := range haltCases() {
		for halt := 1; halt <= 24; halt++ {
			orders(3, x.turns, func(list []int) {
				var long []int
				for i, k := range list {
					long = append(long, slices.Repeat([]int{k}, 1+(i*halt)%7)...)
				}
				for _, ahead := range [][]int{make([]int, halt), nil, slices.Repeat([]int{1, 0}, halt)} {
					c := api.Case{Work: x.calls, Halt: []int{halt}, Turns: slices.Concat(ahead, long)}
					run := wantOrder(t, x.first, c)
					if run.Cut || len(run.Answers[1]) != len(x.calls[1]) || len(run.Answers[2]) != len(x.calls[2]) {
						t.Fatalf("P26.10: %+v: %+v", c, run)
					}
					if len(run.Answers[0]) == 0 {
						undone++
					} else {
						done++
					}
				}
			})
		}
	}
	if undone < 1000 || done < 1000 {
		t.Errorf("the cases are too plain: %d are halted in their first call, %d aren't", undone, done)
	}
}

// Two that are halted, each at any line, with what they left in one another's way: the third one goes on.
func TestTwoHalted(t *testing.T) {
	takesLong(t)
	first := []int{5, 7, 9}
	for _, two := range [][][]api.Call{
		{{move(0, 1, 2)}, {move(1, 2, 3)}}, {{move(0, 1, 2)}, {move(1, 0, 3)}}, {{change(to(0, 5, 1), to(2, 9, 1))}, {look()}}, {{look()}, {look()}},
		{{change(to(0, 5, 1), to(1, 7, 1), to(2, 9, 1))}, {change(to(0, 5, 2), to(1, 7, 2), to(2, 9, 2))}},
	} {
		calls := append(slices.Clone(two), []api.Call{read(1), look(), move(2, 0, 1), change(to(1, 7, 8)), read(0)})
		for one := 1; one <= 15; one++ {
			for other := 1; other <= 15; other++ {
				for _, turns := range [][]int{
					append(make([]int, one), slices.Repeat([]int{1}, other)...), append(slices.Repeat([]int{1}, other), make([]int, one)...), slices.Repeat([]int{0, 1}, 15), slices.Repeat([]int{0, 0, 1, 1, 2}, 10), nil,
				} {
					c := api.Case{Work: calls, Halt: []int{one, other}, Turns: turns}
					wantModel(t, "P26.10: two are halted", first, c)
					if run := wantOrder(t, first, c); run.Cut || len(run.Answers[2]) != len(calls[2]) {
						t.Fatalf("P26.10: %+v: %+v", c, run)
					}
				}
			}
		}
	}
}

// All but one are halted, each with a descriptor under way in another cell: the last one finds them all.
func TestAllButOneHalted(t *testing.T) {
	for halt := 1; halt <= 10; halt++ {
		var c api.Case
		for k := range 7 {
			c.Work = append(c.Work, []api.Call{move(k, k+1, k+1), look()})
			c.Halt = append(c.Halt, halt)
		}
		c.Work = append(c.Work, []api.Call{look(), read(3), move(7, 0, 8), look()})
		for _, turns := range [][]int{nil, slices.Repeat([]int{6, 5, 4, 3, 2, 1, 0}, halt), slices.Repeat([]int{3, 1, 4, 2, 0, 6, 5}, halt)} {
			c.Turns = turns
			run, _ := wantModel(t, "P26.10: all but one are halted", firsts(8), c)
			if a := run.Answers[7]; run.Cut || len(a) != 4 || sumOf(a[0].Ints) != 360 || sumOf(a[3].Ints) != 360 {
				t.Errorf("P26.10: halted behind %d lines: %+v", halt, run)
			}
			wantMoments(t, mixed{firsts(8), c})
		}
	}
}

// A word that was replaced never stands in its cell again: tags rise by one each time. What wasn't to be leaves the word as it was.
func TestWordsNeverComeBack(t *testing.T) {
	takesLong(t)
	changes, back := 0, 0
	follow := func(promise string, c api.Case, first []int) {
		b, _ := wantNamed(t, promise, c, first)
		for i := range first {
			word, away := packed(first[i], 0), false
			for _, frame := range b.film {
				w := frame[i]
				switch {
				case w < 0:
					away = true
					continue
				case w == word && away:
					back++
				case w == word:
				case w%tags != word%tags+1:
					t.Fatalf("P26.11: %v, %+v: cell %d holds %d behind %d", first, c, i, w, word)
				default:
					changes++
				}
				word, away = w, false
			}
		}
	}
	for seed, how := range []manners{{}, {moves: true}, {stops: true}} {
		mixedRuns(50+seed, 1500, how, func(x mixed) { follow("P26.11", filmed(x.c, 200), x.first) })
	}
	for _, x := range everyOrders()[:4] {
		orders(2, 8, func(list []int) { follow("P26.11", filmed(api.Case{Work: x.calls, Turns: list}, 50), x.first) })
	}
	if changes < 1000 || back < 100 {
		t.Errorf("the cases are too plain: words are replaced %d times, and put back %d times", changes, back)
	}
}
