package judge_test

import (
	"reflect"
	"slices"
	"sync"
	"testing"

	"skein/api"
	"skein/judge"
)

// roomy copies a list into one with spare room, in which something stands.
func roomy[T any](list []T, more T) []T {
	room := append(slices.Clone(list), more, more, more)
	return room[:len(list)]
}

// whole: a list with the spare room behind it.
func whole[T any](list []T) []T { return list[:cap(list)] }

// writeOver writes into a list and all the spare room behind it.
func writeOver[T any](list []T, x T) {
	list = whole(list)
	for i := range list {
		list[i] = x
	}
}

// Rule 3: what Order is handed in is neither changed nor kept; what it answers is new memory; rule 6: the same each time.
func TestMemoryOfOrder(t *testing.T) {
	var m mixer = 3
	told := 0
	for range 300 {
		plainFirst, plainDeeds := m.told(1+m.below(3), m.below(20), 20)
		first, l := roomy(plainFirst, 71), roomy(plainDeeds, api.Deed{Begin: 71, Kind: 71})
		wasFirst, was := slices.Clone(whole(first)), slices.Clone(whole(l))
		order, ok, err := judge.Order(first, l)
		again, okAgain, errAgain := judge.Order(first, l)
		kept := slices.Clone(again)
		if !slices.Equal(order, again) || ok != okAgain || err != errAgain {
			t.Fatalf("rule 6: Order(%v, %+v): %v, %v, %d, then %v, %v, %d", first, l, order, ok, err, again, okAgain, errAgain)
		}
		told += len(order)
		writeOver(order, -99)
		if !slices.Equal(again, kept) {
			t.Fatalf("rule 3: an answer of Order was changed by what was done with another one")
		}
		if !slices.Equal(whole(first), wasFirst) || !slices.Equal(whole(l), was) {
			t.Fatalf("rule 3: Order changed what was handed in: %v, %+v", first, l)
		}
		writeOver(first, -99)
		writeOver(l, api.Deed{})
		if !slices.Equal(again, kept) {
			t.Fatalf("rule 3: an answer of Order shares memory with what was handed in")
		}
		// Another history, and then the same again.
		judge.Order([]int{9}, inRow(load(0, 9)))
		if more, _, _ := judge.Order(plainFirst, plainDeeds); !slices.Equal(more, kept) {
			t.Fatalf("rule 6: Order(%v, %+v): %v, and then %v", plainFirst, plainDeeds, kept, more)
		}
	}
	if told == 0 {
		t.Error("no order was told")
	}
}

// copied: a history of a map, all of its lists copied, with spare room.
func copied(start [][]api.Pair, l []api.Event) ([][]api.Pair, []api.Event) {
	more := api.Pair{Key: -71, Value: -71}
	lists, events := roomy(start, nil), roomy(l, api.Event{Begin: 71})
	for i := range lists {
		lists[i] = roomy(lists[i], more)
	}
	for i := range events {
		events[i].Pairs = roomy(events[i].Pairs, more)
		events[i].Numbers = roomy(events[i].Numbers, -71)
	}
	return lists, events
}

// wholeHistory: what can be seen of a history, its spare room too, apart from it.
func wholeHistory(start [][]api.Pair, l []api.Event) []any {
	lists, events := slices.Clone(whole(start)), slices.Clone(whole(l))
	for i := range lists {
		lists[i] = slices.Clone(whole(lists[i]))
	}
	for i := range events {
		events[i].Pairs = slices.Clone(whole(events[i].Pairs))
		events[i].Numbers = slices.Clone(whole(events[i].Numbers))
	}
	return []any{lists, events}
}

// Rule 3 and 6, of Versions.
func TestMemoryOfVersions(t *testing.T) {
	var m mixer = 33
	told := 0
	for range 300 {
		plainStart, plainEvents := m.sound()
		for range 3 {
			if len(plainEvents) > 0 {
				m.spoilEvent(&plainEvents[m.below(len(plainEvents))])
			}
		}
		start, l := copied(plainStart, plainEvents)
		was := wholeHistory(start, l)
		blames, err := judge.Versions(start, l)
		again, errAgain := judge.Versions(start, l)
		kept := slices.Clone(again)
		if !slices.Equal(blames, again) || err != 0 || errAgain != 0 {
			t.Fatalf("rule 6: Versions(%v, %+v): %v, %d, then %v, %d", start, l, blames, err, again, errAgain)
		}
		told += len(blames)
		writeOver(blames, api.Blame{At: -99})
		if !slices.Equal(again, kept) {
			t.Fatalf("rule 3: an answer of Versions was changed by what was done with another one")
		}
		if !reflect.DeepEqual(wholeHistory(start, l), was) {
			t.Fatalf("rule 3: Versions changed what was handed in: %v, %+v", start, l)
		}
		judge.Versions(two(), meanwhile(read(5, 1, 51)))
		if more, _ := judge.Versions(plainStart, plainEvents); !slices.Equal(more, kept) {
			t.Fatalf("rule 6: Versions(%v, %+v): %v, and then %v", plainStart, plainEvents, kept, more)
		}
	}
	if told == 0 {
		t.Error("no blames were told")
	}
}

// Rule 2: a nil list and an empty one are the same.
func TestEmptyLists(t *testing.T) {
	wantOrder(t, "rule 2", []int{1}, nil)
	wantOrder(t, "rule 2", []int{1}, []api.Deed{})
	nothing := during(1, 1, batch(2))
	empty := nothing
	empty.Pairs, empty.Numbers = []api.Pair{}, []int{}
	for _, start := range [][][]api.Pair{{nil}, {{}}} {
		wantBlames(t, "rule 2", start, nil)
		wantBlames(t, "rule 2", start, []api.Event{})
		wantBlames(t, "rule 2", start, []api.Event{nothing, during(1, 1, lacks(5, 2))})
		wantBlames(t, "rule 2", start, []api.Event{empty, during(1, 1, lacks(5, 2))})
	}
	if _, err := judge.Versions([][]api.Pair{}, nil); err != 201 {
		t.Errorf("P20.5: Versions of no lists: %d", err)
	}
}

// Rule 6: many may ask at once, also of one history.
func TestManyAskAtOnce(t *testing.T) {
	var m mixer = 66
	first, l, _ := m.great()
	start, events := m.sound()
	order, _, _ := judge.Order(first, l)
	blames, _ := judge.Versions(start, events)
	var done sync.WaitGroup
	for range 8 {
		done.Go(func() {
			for range 20 {
				o, _, _ := judge.Order(first, l)
				b, _ := judge.Versions(start, events)
				if !slices.Equal(o, order) || !slices.Equal(b, blames) {
					t.Errorf("rule 6: %v and %v, at once %v and %v", order, blames, o, b)
				}
			}
		})
	}
	done.Wait()
}
