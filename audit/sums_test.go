package audit_test

import (
	"slices"
	"testing"

	"skein/api"
	"skein/audit"
)

// P23.2: how many are of each Kind.
func TestSums(t *testing.T) {
	of := func(kinds ...int) []api.Use {
		var list []api.Use
		for i, kind := range kinds {
			// Whatever is told beside a Kind doesn't bear on it.
			list = append(list, api.Use{Kind: kind, Part: i, From: -i, To: 5, Worker: kind})
		}
		return list
	}
	for _, x := range []struct {
		list []api.Use
		want api.Sums
	}{
		{nil, api.Sums{}},
		{[]api.Use{}, api.Sums{}},
		{of(1), api.Sums{Free: 1}},
		{of(2), api.Sums{Versions: 1}},
		{of(3), api.Sums{Nodes: 1}},
		{of(4), api.Sums{Waiting: 1}},
		{of(5), api.Sums{Other: 1}},
		{of(1, 2, 3, 4, 5), api.Sums{Free: 1, Versions: 1, Nodes: 1, Waiting: 1, Other: 1}},
		{of(5, 4, 4, 3, 3, 3, 2, 2, 2, 2, 1, 1, 1, 1, 1), api.Sums{Free: 5, Versions: 4, Nodes: 3, Waiting: 2, Other: 1}},
		{of(0, 6, -1, 7, 100, lowest, highest, 1<<32+1, 257, -1<<32+2, 1<<40+5), api.Sums{}},
		{of(0, 5, 6, 1, -1, 1), api.Sums{Free: 2, Other: 1}},
	} {
		if got := audit.Sums(x.list); got != x.want {
			t.Errorf("P23.2: Sums(%v): %+v, want %+v", x.list, got, x.want)
		}
	}
}

// P23.2: of many; the list, and the spare room behind it, stays, and is not counted.
func TestSumsOfMany(t *testing.T) {
	var m mixer = 3
	for range 300 {
		var counts [9]int
		var list []api.Use
		for range m.below(5000) {
			kind := m.below(9) - 1
			if kind >= 0 {
				counts[kind]++
			}
			list = append(list, api.Use{Kind: kind, Part: m.below(64), From: m.below(9), To: m.below(9), Worker: m.below(8)})
		}
		n := len(list)
		list = append(list, slices.Repeat([]api.Use{isOther}, 5)...)
		was := slices.Clone(list)
		want := api.Sums{Free: counts[1], Versions: counts[2], Nodes: counts[3], Waiting: counts[4], Other: counts[5]}
		for range 2 {
			if got := audit.Sums(list[:n]); got != want {
				t.Fatalf("P23.2: %d uses: %+v, want %+v", n, got, want)
			}
		}
		if !slices.Equal(list, was) {
			t.Fatalf("P23.2: Sums changed the list")
		}
	}
}
