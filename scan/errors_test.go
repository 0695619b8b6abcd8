package scan_test

import (
	"fmt"
	"slices"
	"testing"

	"skein/api"
	"skein/scan"
)

// broad: two parts with keys, behind whose loading the slots 1 and 2 are the leaves of 1 and 2, 3 is their inner node, 4 the version; 5 is the leaf of far, 6 the version.
var broad = api.Setup{Parts: 2, Workers: 2, Slots: 60, Leases: 3, Source: pairs(1, 10, 2, 20, far, 40)}

// hasToSay: a call, what it answers, and its lines.
type hasToSay struct {
	call  api.Call
	want  api.Answer
	lines int
}

// Each error, at each of its places, in stores that were spoilt: what was given ahead of it, and how many lines were done.
func TestErrorsAtTheirPlaces(t *testing.T) {
	x := at(0, 1)
	all, ofFirst := gave(1, 10, 2, 20, far, 40), gave(1, 10, 2, 20)
	for _, c := range []struct {
		name  string
		spoil []api.Call
		says  []hasToSay
	}{
		{"nothing", nil, []hasToSay{
			{rangeBy(x, 0, mostKey), all, 14}, {countBy(x, 0, mostKey), number(3), 12}, {pageBy(x, -1, 2), more(1, 10, 2, 20), 14}, {diffBy(x, x), changed(), 20},
		}},
		{"the first part's version was given back", []api.Call{give(word(4, 1))}, []hasToSay{
			{rangeBy(x, 0, mostKey), failed(gone), 4}, {rangeBy(x, 2, 2), failed(gone), 4}, {countBy(x, 0, mostKey), failed(gone), 4}, {pageBy(x, -1, 2), failed(gone), 4}, {diffBy(x, x), failed(gone), 4},
			{rangeBy(x, far, mostKey), gave(far, 40), 6}, {countBy(x, far, mostKey), number(1), 7}, {pageBy(x, 1<<31-1, 5), last(far, 40), 6},
		}},
		{"the second part's version was given back", []api.Call{give(word(6, 1))}, []hasToSay{
			{rangeBy(x, 0, mostKey), failing(gone, ofFirst), 12}, {rangeBy(x, 0, 9), ofFirst, 8}, {countBy(x, 0, mostKey), failed(gone), 10}, {countBy(x, 0, 9), number(2), 6},
			{pageBy(x, -1, 1), more(1, 10), 8}, {pageBy(x, -1, 2), failed(gone), 12}, {pageBy(x, -1, 3), failed(gone), 12}, {pageBy(x, 1, 1), failed(gone), 11}, {diffBy(x, x), failed(gone), 14},
		}},
		{"the first part's root was given back", []api.Call{give(word(3, 1))}, []hasToSay{
			{rangeBy(x, 0, mostKey), failed(gone), 6}, {rangeBy(x, 5, 5), failed(gone), 6}, {countBy(x, 0, mostKey), failed(gone), 6}, {countBy(x, 1, mostKey), failed(gone), 6}, {countBy(x, 0, 5), failed(gone), 6},
			{pageBy(x, -1, 1), failed(gone), 6}, {diffBy(x, x), changed(), 20},
		}},
		{"the first leaf was given back", []api.Call{give(word(1, 1))}, []hasToSay{
			{rangeBy(x, 0, mostKey), failed(gone), 7}, {rangeBy(x, 2, mostKey), gave(2, 20, far, 40), 13}, {countBy(x, 0, mostKey), number(3), 12}, {countBy(x, 1, mostKey), failed(gone), 7},
			{countBy(x, 0, 0), failed(gone), 7}, {countBy(x, 2, mostKey), number(2), 14}, {pageBy(x, -1, 1), failed(gone), 7}, {pageBy(x, 1, 2), last(2, 20, far, 40), 13},
		}},
		{"the second leaf was given back", []api.Call{give(word(2, 1))}, []hasToSay{
			{rangeBy(x, 0, mostKey), failing(gone, gave(1, 10)), 8}, {left(rangeBy(x, 0, mostKey), 1), gave(1, 10), 7}, {rangeBy(x, 0, 1), gave(1, 10), 7}, {pageBy(x, -1, 1), failed(gone), 8},
			{countBy(x, 1, 2), failed(gone), 9}, {countBy(x, 0, 1), failed(gone), 7}, {countBy(x, 0, 0), number(0), 7}, {countBy(x, 0, 3), number(2), 6},
		}},
		{"the second part's leaf was given back", []api.Call{give(word(5, 1))}, []hasToSay{
			{rangeBy(x, 0, mostKey), failing(gone, ofFirst), 14}, {countBy(x, 0, mostKey), failed(gone), 12}, {countBy(x, 0, far), failed(gone), 12}, {countBy(x, far, far), failed(gone), 6},
			{pageBy(x, -1, 1), more(1, 10), 8}, {pageBy(x, -1, 2), failed(gone), 14}, {diffBy(x, x), changed(), 20},
		}},
		{"the version that is shown was cut off", []api.Call{put(1, 11), link(word(9, 1), 0)}, []hasToSay{
			{rangeBy(x, 0, mostKey), failed(none), 5}, {countBy(x, 0, mostKey), failed(none), 5}, {pageBy(x, -1, 2), failed(none), 5}, {diffBy(x, x), failed(none), 5}, {rangeBy(x, far, far), gave(far, 40), 6},
		}},
		{"a version's link is no handle", []api.Call{put(far, 41), link(word(8, 1), 5)}, []hasToSay{
			{rangeBy(x, 0, mostKey), failing(noHandle, ofFirst), 14}, {countBy(x, 0, mostKey), failed(noHandle), 12}, {pageBy(x, -1, 2), failed(noHandle), 14}, {diffBy(x, x), failed(noHandle), 16},
		}},
		{"the root is no handle", []api.Call{publish(1, 7, 2), freeBy(0, 0), lease(), freeBy(0, 0), lease()}, []hasToSay{
			{rangeBy(at(0, 3), 0, mostKey), failing(noHandle, ofFirst), 14}, {countBy(at(0, 3), 0, mostKey), failed(noHandle), 12}, {pageBy(at(0, 3), 0, 2), failed(noHandle), 14},
		}},
		{"the root is no node", []api.Call{publish(1, word(4, 1), 2), freeBy(0, 0), lease(), freeBy(0, 0), lease()}, []hasToSay{
			{rangeBy(at(0, 3), 0, mostKey), failing(noRoot, ofFirst), 14}, {countBy(at(0, 3), 0, mostKey), failed(noRoot), 12}, {pageBy(at(0, 3), 0, 2), failed(noRoot), 14},
		}},
	} {
		for _, say := range c.says {
			b := newBeside(t, broad, get(1), get(far), lease())
			b.does(t, c.name, c.spoil...)
			if a := b.does(t, "P19.1 to P19.4: "+c.name, say.call); !sameAnswer(a, say.want) || a.Own != say.lines {
				t.Errorf("P19.1 to P19.4: %s: %+v: %+v, want %+v in %d lines", c.name, say.call, a, say.want, say.lines)
			}
		}
	}
}

// The errors of a Diff: the first View's, the second one's, and within the trees, behind some changes.
func TestErrorsOfDiff(t *testing.T) {
	x, y := at(0, 1), at(1, 2)
	const views = 7 + 5
	one := changed(change(1, 10, 11))
	for _, c := range []struct {
		name  string
		spoil []api.Call
		says  []hasToSay
	}{
		{"nothing", nil, []hasToSay{{diffBy(x, y), one, views + 4 + 10}, {diffBy(y, x), changed(change(1, 11, 10)), views + 4 + 10}}},
		{"x's version was given back", []api.Call{give(word(4, 1))}, []hasToSay{{diffBy(x, y), failed(gone), 6}, {diffBy(y, x), failed(gone), 5 + 6}}},
		{"y's version was given back", []api.Call{give(word(9, 1))}, []hasToSay{{diffBy(x, y), failed(gone), 4}, {diffBy(y, x), failed(gone), 4}}},
		{"x's root was given back", []api.Call{give(word(3, 1))}, []hasToSay{{diffBy(x, y), failed(gone), views + 1}, {diffBy(y, x), failed(gone), views + 2}}},
		{"y's root was given back", []api.Call{give(word(8, 1))}, []hasToSay{{diffBy(x, y), failed(gone), views + 2}, {diffBy(y, x), failed(gone), views + 1}}},
		{"y's leaf was given back", []api.Call{give(word(7, 1))}, []hasToSay{{diffBy(x, y), failed(gone), views + 4}, {diffBy(y, x), failed(gone), views + 3}}},
		{"what both share was given back", []api.Call{give(word(2, 1))}, []hasToSay{{diffBy(x, y), one, views + 4 + 10}}},
		{"the second part's version was given back", []api.Call{give(word(6, 1))}, []hasToSay{
			{diffBy(x, y), failing(gone, one), views + 4 + 4}, {left(diffBy(x, y), 1), one, views + 4}, {diffBy(y, x), failing(gone, changed(change(1, 11, 10))), views + 4 + 4},
		}},
	} {
		for _, say := range c.says {
			b := newBeside(t, broad, get(1), get(far), lease(), put(1, 11), lease())
			b.does(t, c.name, c.spoil...)
			if a := b.does(t, "P19.4: "+c.name, say.call); !sameAnswer(a, say.want) || a.Own != say.lines {
				t.Errorf("P19.4: %s: %+v: %+v, want %+v in %d lines", c.name, say.call, a, say.want, say.lines)
			}
		}
	}
	// Behind a change of the same tree: the leaves of 1 and 2 are both new, the second one was given back.
	b := newBeside(t, broad, get(1), get(far), lease(), many(1, 11, 2, 22), lease())
	root := b.state().slot(b.Chain(0).Versions()[0]).Node.A
	leaf := b.state().slot(root).Node.C
	b.does(t, "ahead", give(leaf))
	if a := b.does(t, "P19.4", diffBy(x, y)); !sameAnswer(a, failing(gone, one)) || a.Own != views+2+2+2 {
		t.Errorf("P19.4: %+v", a)
	}
}

// Parts that can't be loaded: the loading fails, another one is at it, there is no room. What the parts ahead show is given; a part that is needed by nobody is left alone; behind a failure it is loaded by the next one who comes.
func TestPartsThatArentThere(t *testing.T) {
	x := at(0, 1)
	ofFirst := gave(1, 10, 2, 20)
	firstOnly := func(name string, s api.Setup, ahead []api.Call, halts int, err api.Errno, lines int) {
		t.Helper()
		for _, say := range []hasToSay{
			{rangeBy(x, 0, mostKey), failing(err, ofFirst), 8 + lines},
			{rangeBy(x, far, far), failed(err), lines},
			{rangeBy(x, 0, 1<<31-1), ofFirst, 8},
			{left(rangeBy(x, 0, mostKey), 2), ofFirst, 8},
			{countBy(x, 0, mostKey), failed(err), 6 + lines},
			{countBy(x, 0, 9), number(2), 6},
			{pageBy(x, -1, 1), more(1, 10), 8},
			{pageBy(x, -1, 2), failed(err), 8 + lines},
			{pageBy(x, -1, mostPage), failed(err), 8 + lines},
			{diffBy(x, x), failed(err), 10 + lines},
		} {
			r := newReal(t, s)
			for _, c := range ahead {
				r.by(t, c)
			}
			if halts > 0 {
				r.haltedBy(t, 1, get(far), halts)
			}
			was := r.state()
			r.wants(t, "P19.1 to P19.4: "+name, say.call, say.want, say.lines)
			if is := r.state(); is.used() != was.used() || !slices.Equal(is.states, was.states) || is.faults != 0 {
				t.Errorf("P19.1 to P19.4: %s: %+v", name, is)
			}
			totals, e := scan.Fan(r.Store, x, 2)
			if ended := say.want.Err == fails; !ended && (len(totals) != 0 || e != err) || ended && e != api.OK {
				t.Errorf("P19.5: %s: %v, %v", name, totals, e)
			}
		}
	}
	small := broad
	small.Slots = 4
	firstOnly("no room", small, []api.Call{get(1), lease()}, 0, noRoom, 1+2+1+1)
	small.Slots = 5
	firstOnly("room for a leaf alone", small, []api.Call{get(1), lease()}, 0, noRoom, 1+2+3+1+4+1)
	for halts := 2; halts <= 10; halts++ {
		firstOnly("busy", broad, []api.Call{get(1), lease()}, halts, busy, 2)
	}
	failingOnce := broad
	failingOnce.Fails = 1
	firstOnly("the loading fails", failingOnce, []api.Call{get(1), get(1), lease()}, 0, fails, 4)
}

// The first loading of each part fails: scans go on part by part, as they come again.
func TestScansComeAgain(t *testing.T) {
	s := broad
	s.Fails = 1
	x := at(0, 1)
	const loadsFirst, loadsSecond = 1 + 2 + (3 + 1 + 6) + 5 + 1 + 2 + 1, 1 + 2 + 3 + 5 + 1 + 2 + 1
	r := newReal(t, s).do(t, lease())
	r.wants(t, "P19.1", rangeBy(x, 0, mostKey), failed(fails), 4)
	r.wants(t, "P19.1", rangeBy(x, 0, mostKey), failing(fails, gave(1, 10, 2, 20)), loadsFirst+3+4)
	r.wants(t, "P19.1", rangeBy(x, 0, mostKey), gave(1, 10, 2, 20, far, 40), 8+loadsSecond+1)
	r.wants(t, "P19.1", rangeBy(x, 0, mostKey), gave(1, 10, 2, 20, far, 40), 8+6)
	r = newReal(t, s).do(t, lease())
	r.wants(t, "P19.2", countBy(x, 0, mostKey), failed(fails), 4)
	r.wants(t, "P19.2", countBy(x, 0, mostKey), failed(fails), loadsFirst+1+4)
	r.wants(t, "P19.2", countBy(x, 0, mostKey), number(3), 6+loadsSecond+1)
	r = newReal(t, s).do(t, lease())
	r.wants(t, "P19.3", pageBy(x, -1, 2), failed(fails), 4)
	r.wants(t, "P19.3", pageBy(x, -1, 1), more(1, 10), loadsFirst+3)
	r.wants(t, "P19.3", pageBy(x, -1, 2), failed(fails), 8+4)
	r.wants(t, "P19.3", pageBy(x, -1, 2), more(1, 10, 2, 20), 8+loadsSecond+1)
	r = newReal(t, s).do(t, lease())
	r.wants(t, "P19.4", diffBy(x, x), failed(fails), 4)
	r.wants(t, "P19.4", diffBy(x, x), failed(fails), loadsFirst+5+4)
	r.wants(t, "P19.4", diffBy(x, x), changed(), 10+loadsSecond+5)
	r = newReal(t, s).do(t, lease())
	for i, want := range []string{"[] 153", "[] 153", "[{2 30} {1 40}] 0"} {
		totals, err := scan.Fan(r.Store, x, 2)
		if got := fmt.Sprint(totals, int(err)); got != want {
			t.Errorf("P19.5: time %d: %s", i, got)
		}
	}
}

// Which error, where several apply: the one that is met first; of a Diff x's ahead of y's, of each part.
func TestFirstError(t *testing.T) {
	s := broad
	s.Fails = 1
	x, y, no := at(0, 1), at(1, 2), at(2, 9)
	r := newReal(t, s).do(t, lease(), lease())
	r.wantsStill(t, "P19.1: no range, no snapshot", rangeBy(no, -1, 5), failed(api.ErrScanRange), 1)
	r.wantsStill(t, "P19.3: no page, no snapshot", pageBy(no, -2, 5), failed(api.ErrScanRange), 1)
	r.wantsStill(t, "P19.4: no snapshot, a loading that fails", diffBy(no, x), failed(noSnap), 1)
	r.wantsStill(t, "P19.4: neither is one", diffBy(no, no), failed(noSnap), 1)
	r.wants(t, "P19.4: a loading that fails, no snapshot", diffBy(x, no), failed(fails), 4)
	r.wants(t, "P19.4: no snapshot, behind a View that loads", diffBy(x, no), failed(noSnap), 1+2+10+5+1+2+1+1)
	r.wants(t, "P19.4: the second part's loading fails", diffBy(x, y), failed(fails), 10+4)
	if totals, err := scan.Fan(r.Store, no, 0); err != api.ErrScanRange || len(totals) != 0 {
		t.Errorf("P19.5: no number of workers, no snapshot: %v, %v", totals, err)
	}
	// Two trees' errors: the first one's. Of a Count, of one tree: that of the lower rank.
	r = newReal(t, broad).do(t, get(1), get(far), lease(), slot(0<<6+1+1, 7, word(1, 1), 2), publish(0, word(7, 1), 2), lease(), give(word(1, 1)), give(word(5, 1)))
	r.wants(t, "P19.2", countBy(y, 1, 2), failed(noHandle), 5+2)
	r.wants(t, "P19.2", countBy(y, 0, 2), failed(gone), 5+2)
	r.wants(t, "P19.2", countBy(y, 2, 2), failed(gone), 5+2)
	r.wants(t, "P19.1", rangeBy(y, 0, mostKey), failed(noHandle), 5+2)
	r.wants(t, "P19.1", rangeBy(y, 2, mostKey), failed(gone), 5+2)
}
