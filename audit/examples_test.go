package audit_test

import (
	"slices"
	"testing"

	"skein/api"
	"skein/audit"
)

// The chapter's examples, step by step.
func TestExamples(t *testing.T) {
	m := newMap(t, api.Setup{Parts: 2, Workers: 2, Slots: 20, Leases: 2, Source: pairs(1, 10)})
	wantUses(t, "Examples", m)
	wantRest(t, "Examples", m, true)
	do(t, m, put(1, 11))
	wantUses(t, "Examples", m, node(0, 1, 1), version(0, 1), node(0, 2, 2), version(0, 2))
	wantTrims(t, "Examples", m, 2, 0)
	wantLeast(t, "Examples", m, 2)
	wantRest(t, "Examples", m, false)
	do(t, m, trim(0))
	wantUses(t, "Examples", m, waits(0), waits(0), node(0, 2, 2), version(0, 2))
	wantTrims(t, "Examples", m, 0, 0)
	wantRest(t, "Examples", m, false)
	do(t, m, advance(), advance())
	wantRest(t, "Examples", m, false)
	do(t, m, collect())
	wantUses(t, "Examples", m, isFree, isFree, node(0, 2, 2), version(0, 2))
	wantRest(t, "Examples", m, true)
	wantLeast(t, "Examples", m, 2)
	if n := audit.Sums(audit.Uses(m)); n != (api.Sums{Free: 18, Versions: 1, Nodes: 1}) {
		t.Errorf("Examples: Sums: %+v", n)
	}
}

// P23.4: a write that is cut off ahead of its publishing, line by line.
func TestPlayByHand(t *testing.T) {
	for until, want := range map[int][]api.Use{
		27: {node(0, 1, 1), version(0, 1), isFree, isFree},
		28: {node(0, 1, 1), version(0, 1), isOther, isFree},
		31: {node(0, 1, 1), version(0, 1), isOther, isOther},
		32: {node(0, 1, 1), version(0, 1), node(0, 2, 2), version(0, 2)},
	} {
		c := work([]api.Call{get(1), put(1, 11)})
		c.Until = until
		run, a, err := audit.Play(api.Setup{Parts: 1, Workers: 1, Slots: 4, Leases: 1, Source: pairs(1, 10)}, c)
		trims := []int{0}
		if until == 32 {
			trims[0] = 2
		}
		if err != api.OK || run.Steps != until || len(run.Open) != 1 || !slices.Equal(a.Uses, want) || !slices.Equal(a.Trims, trims) || a.Least != 2 || a.Rest {
			t.Errorf("P23.4: behind %d steps: %+v, %+v, %v", until, run, a, err)
		}
	}
}
