package judge_test

import (
	"math"
	"slices"
	"testing"

	"skein/api"
	"skein/judge"
)

// judging: a history, and what is blamed in it.
type judging struct {
	l    []api.Event
	want []blame
}

func wantJudgings(t *testing.T, promise string, start [][]api.Pair, table map[string]judging) {
	t.Helper()
	for name, c := range table {
		wantBlames(t, promise+": "+name, start, c.l, c.want...)
	}
}

// P20.5, Why 2: two published one version.
func TestWhyTwice(t *testing.T) {
	a, b := write(5, 2, 50, 51), batch(2, 5, 52)
	wantJudgings(t, "P20.5, Why 2", two(), map[string]judging{
		"two Writes":           {meanwhile(a, a), []blame{{0, -1, 3}, {1, -1, 3}, {1, 0, 2}}},
		"a Write and a Batch":  {meanwhile(a, b), []blame{{0, -1, 3}, {1, -1, 3}, {1, 0, 2}}},
		"a Batch and a Write":  {meanwhile(b, a), []blame{{0, -1, 3}, {1, -1, 3}, {1, 0, 2}}},
		"two Batches":          {meanwhile(b, b), []blame{{0, -1, 3}, {1, -1, 3}, {1, 0, 2}}},
		"three":                {meanwhile(a, b, a), []blame{{0, -1, 3}, {1, -1, 3}, {1, 0, 2}, {2, -1, 3}, {2, 0, 2}, {2, 1, 2}}},
		"far apart":            {meanwhile(a, read(5, 1, 50), b), []blame{{0, -1, 3}, {2, -1, 3}, {2, 0, 2}}},
		"one more":             {meanwhile(a, write(5, 3, 51, 52)), nil},
		"of another part":      {meanwhile(a, of(1, lays(5, 2, 51))), nil},
		"a Read of it":         {meanwhile(a, read(5, 2, 51)), nil},
		"a Same of it":         {meanwhile(a, same(5, 2, 51)), nil},
		"one is open":          {[]api.Event{during(1, 9, a), during(1, 0, a)}, nil},
		"both are open":        {[]api.Event{during(1, 0, a), during(1, 0, b)}, nil},
		"beside an open one":   {append(meanwhile(a, a), during(1, 0, b)), []blame{{1, 0, 2}}},
		"it was ahead":         {behind(a, a), []blame{{0, -1, 3}, {1, -1, 3}, {1, 0, 2}, {1, 0, 5}}},
		"it was ahead, behind": {[]api.Event{during(3, 4, a), during(1, 2, a)}, []blame{{0, -1, 3}, {0, 1, 5}, {1, -1, 3}, {1, 0, 2}}},
		"of the greatest":      {append(meanwhile(lays(6, math.MaxInt, 1), lays(6, math.MaxInt, 1)), during(1, 0, a)), []blame{{1, 0, 2}}},
	})
}

// P20.5, Why 3: nobody published the version.
func TestWhyUntold(t *testing.T) {
	open := func(e api.Event) api.Event { return during(1, 0, e) }
	wantJudgings(t, "P20.5, Why 3", two(), map[string]judging{
		"a Read":                                {meanwhile(read(5, 2, 50)), []blame{{0, -1, 3}}},
		"a Read of the greatest":                {meanwhile(read(5, math.MaxInt, 50)), []blame{{0, -1, 3}}},
		"a Read of the first":                   {meanwhile(read(5, 1, 50)), nil},
		"a Same":                                {meanwhile(same(5, 2, 50)), []blame{{0, -1, 3}}},
		"a Same of the first":                   {meanwhile(same(5, 1, 50)), nil},
		"a Write of the second":                 {meanwhile(write(5, 2, 50, 51)), nil},
		"a Write of the third":                  {meanwhile(write(5, 3, 50, 51)), []blame{{0, -1, 3}}},
		"a Write of the greatest":               {meanwhile(write(5, math.MaxInt, 50, 51)), []blame{{0, -1, 3}}},
		"a Batch of the second":                 {meanwhile(batch(2)), nil},
		"a Batch of the third":                  {meanwhile(batch(3)), []blame{{0, -1, 3}}},
		"one below is missing":                  {meanwhile(lays(6, 2, 1), lays(7, 4, 1), lays(8, 5, 1), read(6, 4, 1)), []blame{{1, -1, 3}, {2, -1, 3}, {3, -1, 3}}},
		"one below was published twice":         {meanwhile(lays(6, 2, 1), lays(7, 3, 1), lays(7, 3, 1), lays(8, 4, 1), read(6, 3, 1), read(6, 2, 1)), []blame{{1, -1, 3}, {2, -1, 3}, {2, 1, 2}, {3, -1, 3}, {4, -1, 3}}},
		"just one more than was published":      {meanwhile(lays(6, 2, 1), lays(7, 3, 1), read(6, 4, 1)), []blame{{2, -1, 3}}},
		"just what was published":               {meanwhile(lays(6, 2, 1), lays(7, 3, 1), read(6, 3, 1)), nil},
		"an open Write":                         {append(meanwhile(read(5, 2, 50), read(5, 9, 50), write(5, 7, 5, 5), batch(8), same(5, 6, 50)), open(write(5, 2, 50, 51))), nil},
		"an open Batch":                         {append(meanwhile(read(5, 2, 50), read(5, 9, 50), write(5, 7, 5, 5), batch(8), same(5, 6, 50)), open(batch(2))), nil},
		"an open Write that began behind it":    {append(meanwhile(read(5, 2, 50)), during(100, 0, write(5, 2, 50, 51))), nil},
		"an open Write of another part":         {append(meanwhile(read(5, 2, 50)), open(of(1, write(8, 2, 80, 81)))), []blame{{0, -1, 3}}},
		"an open Batch of another part":         {append(meanwhile(read(5, 2, 50)), open(of(1, batch(2)))), []blame{{0, -1, 3}}},
		"an open Write of the part 1":           {append(meanwhile(of(1, read(8, 2, 80))), open(of(1, write(8, 2, 80, 81)))), nil},
		"an open Read":                          {append(meanwhile(read(5, 2, 50)), open(read(5, 2, 50))), []blame{{0, -1, 3}}},
		"an open Same":                          {append(meanwhile(read(5, 2, 50)), open(same(5, 2, 50))), []blame{{0, -1, 3}}},
		"an open Snap":                          {append(meanwhile(read(5, 2, 50)), open(snap(2, 2))), []blame{{0, -1, 3}}},
		"a Snap of versions that aren't told":   {meanwhile(snap(7, math.MaxInt)), nil},
		"published later than what hangs on it": {append(meanwhile(write(5, 3, 51, 52)), during(20, 30, write(5, 2, 50, 51))), []blame{{1, 0, 5}}},
	})
}

// P20.5, Why 4: the version holds something else.
func TestWhyOther(t *testing.T) {
	hadNot := func(e api.Event, value int) api.Event {
		e.Had, e.Value = false, value
		return e
	}
	open := during(1, 0, batch(9))
	wantJudgings(t, "P20.5, Why 4", two(), map[string]judging{
		"a Read":                                 {meanwhile(read(5, 1, 50)), nil},
		"a Read, one more":                       {meanwhile(read(5, 1, 51)), []blame{{0, -1, 4}}},
		"a Read of a key that is there":          {meanwhile(lacks(5, 1)), []blame{{0, -1, 4}}},
		"a Read that hadn't it, but tells it":    {meanwhile(hadNot(read(5, 1, 0), 50)), []blame{{0, -1, 4}}},
		"a Read of a key that isn't there":       {meanwhile(lacks(6, 1)), nil},
		"a Read that has it as 0":                {meanwhile(read(6, 1, 0)), []blame{{0, -1, 4}}},
		"a Read that hadn't it, and tells 1":     {meanwhile(hadNot(lacks(6, 1), 1)), []blame{{0, -1, 4}}},
		"a Same":                                 {meanwhile(same(5, 1, 50)), nil},
		"a Same, one less":                       {meanwhile(same(5, 1, 49)), []blame{{0, -1, 4}}},
		"a Same of what isn't there":             {meanwhile(hadNot(same(6, 1, 0), 0)), nil},
		"a Same that hadn't it, and tells 1":     {meanwhile(hadNot(same(6, 1, 0), 1)), []blame{{0, -1, 4}}},
		"a Same, New isn't looked at":            {meanwhile(api.Event{Kind: api.Same, Key: 5, Number: 1, Had: true, Value: 50, Has: true, New: 7}), nil},
		"a Write":                                {meanwhile(write(5, 2, 50, 51)), nil},
		"a Write that had something else":        {meanwhile(write(5, 2, 51, 51)), []blame{{0, -1, 4}}},
		"a Write that had nothing":               {meanwhile(lays(5, 2, 51)), []blame{{0, -1, 4}}},
		"a Write that had what isn't there":      {meanwhile(write(6, 2, 0, 51)), []blame{{0, -1, 4}}},
		"a Write that hadn't it, and tells 1":    {meanwhile(hadNot(lays(6, 2, 51), 1)), []blame{{0, -1, 4}}},
		"a Write that takes away":                {meanwhile(drops(5, 2, 50)), nil},
		"a Write that takes something else away": {meanwhile(drops(5, 2, 51)), []blame{{0, -1, 4}}},
		"two that go on":                         {meanwhile(write(5, 2, 50, 51), write(5, 3, 51, 52)), nil},
		"two that don't":                         {meanwhile(write(5, 2, 50, 51), write(5, 3, 50, 52)), []blame{{1, -1, 4}}},
		"one is blamed, and its version is told": {meanwhile(write(5, 2, 49, 51), write(5, 3, 51, 52), read(5, 2, 51)), []blame{{0, -1, 4}}},
		"a version that two published":           {meanwhile(write(5, 2, 50, 51), write(5, 2, 49, 52), read(5, 2, 1)), []blame{{0, -1, 3}, {1, -1, 3}, {1, -1, 4}, {1, 0, 2}, {2, -1, 3}}},
		"what hangs on it":                       {meanwhile(lays(6, 2, 1), lays(6, 2, 1), write(5, 3, 49, 52), read(5, 3, 9)), []blame{{0, -1, 3}, {1, -1, 3}, {1, 0, 2}, {2, -1, 3}, {3, -1, 3}}},
		"one that isn't told":                    {append(meanwhile(read(5, 2, 7), write(5, 3, 7, 8), read(5, 3, 9)), open), nil},
		"the version ahead is told, its own not": {append(meanwhile(write(5, 2, 50, 51), write(5, 2, 49, 51)), open), []blame{{1, -1, 4}, {1, 0, 2}}},
		"the first one that isn't told":          {append(meanwhile(write(5, 2, 50, 51), read(5, 3, 7), write(5, 4, 7, 8)), open), nil},
		"a Batch tells nothing of what was":      {meanwhile(api.Event{Kind: api.Batch, Number: 2, Key: 5, Had: true, Value: 9}), nil},
		"a Snap tells nothing of a key":          {meanwhile(api.Event{Kind: api.Snapshot, Numbers: []int{1, 1}, Number: 1, Key: 5, Had: true, Value: 9}), nil},
		"of the other part":                      {meanwhile(of(1, read(5, 1, 50)), of(1, write(8, 2, 81, 80))), []blame{{0, -1, 4}, {1, -1, 4}}},
	})
}

// P20.5, Why 5: it goes back behind one that was ahead.
func TestWhyBack(t *testing.T) {
	kinds := func(number int) []api.Event {
		return []api.Event{lacks(6, number), {Kind: api.Write, Key: 6, Number: number}, {Kind: api.Same, Key: 6, Number: number}, batch(number)}
	}
	open := during(1, 0, batch(2))
	for _, x := range kinds(7) {
		for n := 5; n <= 9; n++ {
			for _, y := range kinds(n) {
				var back, twice []blame
				if n < 7 || n == 7 && publishes(y) {
					back = []blame{{1, 0, 5}}
				}
				if n == 7 && publishes(y) && publishes(x) {
					twice = []blame{{1, 0, 2}}
				}
				l := []api.Event{during(2, 3, x), during(4, 9, y), open}
				wantBlames(t, "P20.5, Why 5", two(), l, append(slices.Clone(twice), back...)...)
				l[1] = during(3, 9, y)
				wantBlames(t, "P20.5, Why 5: it began just at the other one's end", two(), l, twice...)
				l[1] = during(1, 9, y)
				wantBlames(t, "P20.5, Why 5: it began ahead", two(), l, twice...)
				l[1] = of(1, during(4, 9, y))
				wantBlames(t, "P20.5, Why 5: of another part", two(), append(l, of(1, open)))
				l[1] = during(4, 0, y)
				wantBlames(t, "P20.5, Why 5: it is open", two(), l)
				l[0], l[1] = during(2, 0, x), during(4, 9, y)
				wantBlames(t, "P20.5, Why 5: the other one is open", two(), l)
				l[0], l[1] = during(math.MaxInt, math.MaxInt, y), during(1, math.MaxInt-1, x)
				for i := range back {
					back[i] = blame{0, 1, 5}
				}
				wantBlames(t, "P20.5, Why 5: the other one's place is behind", two(), l, append(back, twice...)...)
			}
		}
	}
}

// P20.5, Why 6: an event and a Snap don't go together.
func TestWhySnap(t *testing.T) {
	open := []api.Event{during(1, 0, batch(2)), of(1, during(1, 0, batch(2)))}
	events := func(number int) []api.Event {
		return []api.Event{lacks(6, number), {Kind: api.Write, Key: 6, Number: number}, {Kind: api.Same, Key: 6, Number: number}, batch(number)}
	}
	history := func(l ...api.Event) []api.Event { return append(l, open...) }
	for part := range 2 {
		for n := 5; n <= 9; n++ {
			for _, e := range events(n) {
				e = of(part, e)
				// The Snap shows 7 of that part, and of the other one what blames it the other way round.
				low, high := snap(7, 7), snap(7, 7)
				low.Numbers[1-part], high.Numbers[1-part] = 1, 99
				var late, early []blame
				if n <= 7 && publishes(e) {
					late = []blame{{1, 0, 6}}
				}
				if 7 < n {
					early = []blame{{1, 0, 6}}
				}
				for _, s := range []api.Event{low, high} {
					wantBlames(t, "P20.5, Why 6: behind a Snap", two(), history(during(2, 3, s), during(4, 9, e)), late...)
					wantBlames(t, "P20.5, Why 6: just at a Snap's end", two(), history(during(2, 3, s), during(3, 9, e)))
					wantBlames(t, "P20.5, Why 6: a Snap behind", two(), history(during(2, 3, e), during(4, 9, s)), early...)
					wantBlames(t, "P20.5, Why 6: a Snap just at its end", two(), history(during(2, 3, e), during(3, 9, s)))
					wantBlames(t, "P20.5, Why 6: the event is open", two(), history(during(2, 3, s), during(4, 0, e)))
					wantBlames(t, "P20.5, Why 6: the Snap is open", two(), history(during(2, 3, e), during(4, 0, s)))
					wantBlames(t, "P20.5, Why 6: an open Snap was ahead of nobody", two(), history(during(2, 0, s), during(4, 9, e)))
					wantBlames(t, "P20.5, Why 6: an open event was ahead of nobody", two(), history(during(2, 0, e), during(4, 9, s)))
					for i := range late {
						late[i] = blame{0, 1, 6}
					}
					wantBlames(t, "P20.5, Why 6: behind a Snap whose place is behind", two(), history(during(4, 9, e), during(2, 3, s)), late...)
					for i := range late {
						late[i] = blame{1, 0, 6}
					}
				}
			}
		}
	}
}

// P20.5, Why 7: two Snaps don't go together.
func TestWhySnaps(t *testing.T) {
	three := make([][]api.Pair, 3)
	numbers := [][]int{{1, 1, 1}, {1, 1, 2}, {1, 2, 1}, {2, 1, 1}, {1, 2, 2}, {2, 2, 1}, {2, 1, 2}, {2, 2, 2}, {3, 1, 2}, {math.MaxInt, 1, 1}}
	for _, a := range numbers {
		for _, b := range numbers {
			above, below := false, false
			for i := range a {
				above = above || a[i] > b[i]
				below = below || a[i] < b[i]
			}
			want := func(blamed bool) []blame {
				if blamed {
					return []blame{{1, 0, 7}}
				}
				return nil
			}
			x, y := snap(a...), snap(b...)
			wantBlames(t, "P20.5, Why 7: at once", three, meanwhile(x, y), want(above && below)...)
			wantBlames(t, "P20.5, Why 7: one behind the other", three, behind(x, y), want(above)...)
			wantBlames(t, "P20.5, Why 7: the first one behind", three, []api.Event{during(3, 4, x), during(1, 2, y)}, want(below)...)
			wantBlames(t, "P20.5, Why 7: just at its end", three, []api.Event{during(1, 3, x), during(3, 4, y)}, want(above && below)...)
			wantBlames(t, "P20.5, Why 7: the first one just at its end", three, []api.Event{during(3, 4, x), during(1, 3, y)}, want(above && below)...)
			wantBlames(t, "P20.5, Why 7: one is open", three, []api.Event{during(1, 0, x), during(3, 4, y)})
			wantBlames(t, "P20.5, Why 7: the other one is open", three, []api.Event{during(1, 2, x), during(3, 0, y)})
		}
	}
	wide := make([]int, 64)
	for i := range wide {
		wide[i] = 5
	}
	for i := range 64 {
		for j := range 64 {
			x, y := slices.Clone(wide), slices.Clone(wide)
			x[i]++
			y[j]++
			blames, err := judge.Versions(make([][]api.Pair, 64), meanwhile(snap(x...), snap(y...)))
			if err != 0 || len(blames) == 1 != (i != j) {
				t.Errorf("P20.5, Why 7: above at %d and at %d: %v, %d", i, j, blames, err)
			}
		}
	}
	wantBlames(t, "P20.5, Why 7: of one part", one(), meanwhile(snap(1), snap(2), snap(3)))
	wantBlames(t, "P20.5, Why 7: of one part", one(), behind(snap(1), snap(2), snap(2), snap(1)), blame{3, 1, 7}, blame{3, 2, 7})
}

// P20.5: many Whys beside one another, in their order, none twice.
func TestBlamesInOrder(t *testing.T) {
	l := []api.Event{
		during(20, 21, read(5, 1, 51)),        // 4; 5 behind 1 and 2; 6: a Read isn't
		during(1, 4, write(5, 2, 50, 51)),     //
		during(5, 6, write(5, 2, 50, 51)),     // 2 and 5 with 1
		during(7, 8, snap(1, 1)),              // 6 with 1 and 2
		during(9, 10, batch(1)),               // 1
		during(11, 12, snap(3, 2)),            //
		during(13, 14, of(1, lays(8, 2, 81))), // 4; 6 with 5
		during(15, 16, snap(2, 3)),            // 7 with 5
	}
	wantBlames(t, "P20.5", two(), l,
		blame{0, -1, 4}, blame{0, 1, 5}, blame{0, 2, 5},
		blame{1, -1, 3},
		blame{2, -1, 3}, blame{2, 1, 2}, blame{2, 1, 5},
		blame{3, 1, 6}, blame{3, 2, 6},
		blame{4, -1, 1},
		blame{6, -1, 4}, blame{6, 5, 6},
		blame{7, 5, 7},
	)
}

// P20.5: as many events as there may be: all blames of them are told, in their order.
func TestManyBlames(t *testing.T) {
	takesLong(t)
	one := [][]api.Pair{nil}
	twice := slices.Repeat([]api.Event{during(1, 1, batch(2))}, 1024)
	var back, snaps, good []api.Event
	for i := range 1024 {
		back = append(back, during(i+1, i+1, batch(2000-i)))
		snaps = append(snaps, during(i+1, i+1, snap(2000-i)))
		good = append(good, during(i+1, i+1, lays(i, i+2, i)))
	}
	for name, c := range map[string]struct {
		l    []api.Event
		want int
	}{
		"Why 2 and 3": {twice, 1024*1023/2 + 1024},
		"Why 3 and 5": {back, 1024*1023/2 + 1024},
		"Why 7":       {snaps, 1024 * 1023 / 2},
		"none":        {good, 0},
	} {
		blames, err := judge.Versions(one, c.l)
		if err != 0 || len(blames) != c.want || !isRising(blames) {
			t.Errorf("P20.5: %s: %d blames, %d, want %d, rising", name, len(blames), err, c.want)
		}
	}
	wide := make([]int, 64)
	for i := range 64 {
		wide[i] = 1
	}
	blames, err := judge.Versions(make([][]api.Pair, 64), slices.Repeat([]api.Event{during(1, 1, snap(wide...))}, 1024))
	if err != 0 || len(blames) != 0 {
		t.Errorf("P20.5: 1024 Snaps of 64 parts: %d blames, %d", len(blames), err)
	}
}

// isRising tells whether blames rise by At, With and Why, none twice.
func isRising(l []api.Blame) bool {
	for i := range l[min(1, len(l)):] {
		a, b := l[i], l[i+1]
		if slices.Compare([]int{a.At, a.With, a.Why}, []int{b.At, b.With, b.Why}) >= 0 {
			return false
		}
	}
	return true
}
