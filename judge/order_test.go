package judge_test

import (
	"fmt"
	"math"
	"slices"
	"testing"

	"skein/api"
	"skein/judge"
)

// The ints at the ends, and around 0.
var edges = []int{math.MinInt, math.MinInt + 1, -1, 0, 1, math.MaxInt - 1, math.MaxInt}

// P20.2, example 1.
func TestExamplesOfOrder(t *testing.T) {
	first := []int{0}
	one := at(1, 4, store(0, 1))
	wantOrder(t, "example 1", first, []api.Deed{one, at(2, 3, load(0, 0))}, 1, 0)
	wantNone(t, "example 1", first, []api.Deed{one, at(2, 2, load(0, 1)), at(3, 3, load(0, 0))})
	wantOrder(t, "example 1", first, []api.Deed{at(1, 1, add(0, 2, 2)), open(2, add(0, 5, 0)), at(3, 3, load(0, 7))}, 0, 1, 2)
	wantOrder(t, "example 1", first, []api.Deed{at(1, 1, add(0, 2, 2)), open(2, add(0, 5, 0)), at(3, 3, load(0, 2))}, 0, 2)
}

// P20.2: how many cells.
func TestCellsOfOrder(t *testing.T) {
	for _, n := range []int{0, 1, 2, 255, 256, 257, 1000} {
		first := make([]int, n)
		want := api.OK
		if n < 1 || n > 256 {
			want = 201
		}
		if _, _, err := judge.Order(first, nil); err != want {
			t.Errorf("P20.2: Order of %d cells: %d, want %d", n, err, want)
		}
		if want == 0 {
			first[n-1] = 7
			wantOrder(t, "P20.2", first, inRow(load(n-1, 7), add(n-1, 1, 8)), 0, 1)
			wantNone(t, "P20.2", first, inRow(load(n-1, 6)))
		}
	}
	wantRefused(t, "P20.2", nil, nil, 201)
	wantRefused(t, "P20.2", []int{}, nil, 201)
}

// P20.2: how many deeds.
func TestDeedsOfOrder(t *testing.T) {
	wantOrder(t, "P20.2", []int{5}, nil)
	wantOrder(t, "P20.2", []int{5}, []api.Deed{})
	for _, n := range []int{1, 2, 63, 64, 65, 66, 500} {
		var row []api.Deed
		for i := range n {
			row = append(row, at(i+1, i+1, add(0, 1, i+1)))
		}
		if n > 64 {
			wantRefused(t, "P20.2", []int{0}, row, 201)
			continue
		}
		wantOrder(t, "P20.2", []int{0}, row, upTo(n)...)
		row[n-1].N++
		wantNone(t, "P20.2", []int{0}, row)
	}
}

// P20.2: how many at one time.
func TestDeedsAtOneTime(t *testing.T) {
	eight := func(begin, end int) []api.Deed {
		return atOnce(begin, end, slices.Repeat([]api.Deed{load(0, 0)}, 8)...)
	}
	const most = math.MaxInt
	for name, c := range map[string]struct {
		l    []api.Deed
		more api.Deed
		want api.Errno
	}{
		"ended, a ninth beside them":      {eight(2, 5), at(3, 4, load(0, 0)), 201},
		"ended, a ninth around them":      {eight(2, 5), at(1, 9, load(0, 0)), 201},
		"ended, it begins where they end": {eight(2, 5), at(5, 9, load(0, 0)), 201},
		"ended, it begins behind them":    {eight(2, 5), at(6, 9, load(0, 0)), 0},
		"ended, it ends where they begin": {eight(2, 5), at(1, 2, load(0, 0)), 201},
		"ended, it ends ahead of them":    {eight(2, 5), at(1, 1, load(0, 0)), 0},
		"ended at once":                   {eight(2, 2), at(2, 2, load(0, 0)), 201},
		"ended at once, one ahead":        {eight(2, 2), at(1, 1, load(0, 0)), 0},
		"ended at once, one behind":       {eight(2, 2), at(3, 3, load(0, 0)), 0},
		"ended, an open one ahead":        {eight(2, 5), open(1, load(0, 0)), 201},
		"ended, an open one at their end": {eight(2, 5), open(5, load(0, 0)), 201},
		"ended, an open one behind":       {eight(2, 5), open(6, load(0, 0)), 0},
		"open ones":                       {eight(2, 0), open(2, load(0, 0)), 201},
		"open ones, one far behind":       {eight(2, 0), open(most, load(0, 0)), 201},
		"open ones, one ahead":            {eight(2, 0), open(1, load(0, 0)), 201},
		"open ones, one ends ahead":       {eight(2, 0), at(1, 1, load(0, 0)), 0},
		"open ones, one ends at them":     {eight(2, 0), at(1, 2, load(0, 0)), 201},
		"open ones, an ended one behind":  {eight(2, 0), at(3, 3, load(0, 0)), 201},
		"at the end of time":              {eight(most, most), at(most, most, load(0, 0)), 201},
		"ahead of the end of time":        {eight(most, most), at(most-1, most-1, load(0, 0)), 0},
	} {
		if _, _, err := judge.Order([]int{0}, c.l); err != 0 {
			t.Errorf("P20.2: %s: eight at one time: %d", name, err)
		}
		for place := range 9 {
			l := slices.Insert(slices.Clone(c.l), place, c.more)
			if _, _, err := judge.Order([]int{0}, l); err != c.want {
				t.Errorf("P20.2: %s, at place %d: %d, want %d", name, place, err, c.want)
			}
		}
	}
}

// P20.2: that many are only at some time in the midst, which is nobody's but one's Begin.
func TestDeedsThatComeOneByOne(t *testing.T) {
	for n := 1; n <= 12; n++ {
		var coming, going, chain []api.Deed
		for i := range n {
			coming = append(coming, at(i+1, 50, load(0, 0)))
			going = append(going, at(1+40*(i%2), 60+i, load(0, 0)))
			chain = append(chain, at(3*i+1, 3*i+20, load(0, 0))) // at most 7 at one time
		}
		want := api.OK
		if n > 8 {
			want = 201
		}
		for _, l := range [][]api.Deed{coming, going} {
			if _, _, err := judge.Order([]int{0}, l); err != want {
				t.Errorf("P20.2: %d deeds at one time: %d, want %d", n, err, want)
			}
		}
		wantOrder(t, "P20.2", []int{0}, chain, upTo(n)...)
	}
}

// P20.1: which deeds are right.
func TestRightDeeds(t *testing.T) {
	first := []int{0, 0, 0}
	right := at(3, 5, load(1, 0))
	wrong := map[string]func(d *api.Deed){
		"Kind 0":                 func(d *api.Deed) { d.Kind = 0 },
		"Kind 8":                 func(d *api.Deed) { d.Kind = 8 },
		"Kind -1":                func(d *api.Deed) { d.Kind = -1 },
		"the greatest Kind":      func(d *api.Deed) { d.Kind = math.MaxInt },
		"the least Kind":         func(d *api.Deed) { d.Kind = math.MinInt },
		"A -1":                   func(d *api.Deed) { d.A = -1 },
		"A len(first)":           func(d *api.Deed) { d.A = 3 },
		"the greatest A":         func(d *api.Deed) { d.A = math.MaxInt },
		"the least A":            func(d *api.Deed) { d.A = math.MinInt },
		"Begin 0":                func(d *api.Deed) { d.Begin = 0 },
		"Begin -1":               func(d *api.Deed) { d.Begin = -1 },
		"the least Begin":        func(d *api.Deed) { d.Begin = math.MinInt },
		"Begin 0, open":          func(d *api.Deed) { d.Begin, d.End = 0, 0 },
		"Begin -1, open":         func(d *api.Deed) { d.Begin, d.End = -1, 0 },
		"End below Begin":        func(d *api.Deed) { d.End = 2 },
		"End 1, Begin 2":         func(d *api.Deed) { d.Begin, d.End = 2, 1 },
		"End -1":                 func(d *api.Deed) { d.End = -1 },
		"End -1, Begin -2":       func(d *api.Deed) { d.Begin, d.End = -2, -1 },
		"the least End":          func(d *api.Deed) { d.End = math.MinInt },
		"Begin above the end":    func(d *api.Deed) { d.Begin, d.End = math.MaxInt, math.MaxInt-1 },
		"all zero":               func(d *api.Deed) { *d = api.Deed{} },
		"an open one's Kind":     func(d *api.Deed) { d.End, d.Kind = 0, 8 },
		"an open one's A":        func(d *api.Deed) { d.End, d.A = 0, 3 },
		"a Store without a cell": func(d *api.Deed) { *d = at(3, 5, store(3, 1)) },
		"a Cas without a cell":   func(d *api.Deed) { *d = at(3, 5, cas(-1, 0, 1, false)) },
	}
	for name, spoil := range wrong {
		d := right
		spoil(&d)
		wantRefused(t, "P20.2: "+name, first, []api.Deed{d}, 200)
		wantRefused(t, "P20.2: "+name, first, []api.Deed{d, right}, 200)
		wantRefused(t, "P20.2: "+name, first, []api.Deed{right, right, d}, 200)
	}
	for _, d := range []api.Deed{
		right, at(1, 1, load(0, 0)), at(5, 5, load(2, 0)), at(1, math.MaxInt, load(1, 0)), at(math.MaxInt, math.MaxInt, load(1, 0)),
	} {
		wantOrder(t, "P20.1", first, []api.Deed{d}, 0)
		d.End = 0
		wantOrder(t, "P20.1: open", first, []api.Deed{d})
	}
	for kind := 1; kind <= 7; kind++ {
		wantOrder(t, "P20.1", first, []api.Deed{{Kind: kind, A: 2, B: 0, C: 0, Ok: kind == 5, Begin: 1, End: 1}}, 0)
	}
}

// P20.2: which error comes first.
func TestFirstErrorOfOrder(t *testing.T) {
	wrong := api.Deed{Kind: 8, Begin: 1}
	nine := atOnce(1, 0, slices.Repeat([]api.Deed{load(0, 0)}, 9)...)
	many := make([]api.Deed, 65)
	wantRefused(t, "P20.2: no cells, a wrong deed", nil, []api.Deed{wrong}, 201)
	wantRefused(t, "P20.2: too many cells, a wrong deed", make([]int, 257), []api.Deed{wrong}, 201)
	wantRefused(t, "P20.2: no cells, too many deeds", nil, many, 201)
	wantRefused(t, "P20.2: too many deeds, all wrong", []int{0}, many, 201)
	wantRefused(t, "P20.2: nine at one time, one wrong behind them", []int{0}, append(slices.Clone(nine), wrong), 200)
	wantRefused(t, "P20.2: one wrong, nine at one time behind it", []int{0}, append([]api.Deed{wrong}, nine...), 200)
	wantRefused(t, "P20.2: nine at one time, of no cell", []int{0}, atOnce(1, 0, slices.Repeat([]api.Deed{load(1, 0)}, 9)...), 200)
	wantRefused(t, "P20.2: nine at one time, in no order", []int{0}, atOnce(1, 1, slices.Repeat([]api.Deed{load(0, 5)}, 9)...), 201)
	wantRefused(t, "P20.2: a wrong one that fits nowhere", []int{0}, []api.Deed{at(1, 1, load(0, 5)), wrong}, 200)
}

// P20.1: what each kind answers alone, and makes of its cell, at the greatest and least numbers too: as layer 4's calls do.
func TestAlone(t *testing.T) {
	for kind := 1; kind <= 7; kind++ {
		for _, x := range edges {
			for _, b := range edges {
				for _, c := range []int{b, 5, math.MinInt} {
					wantAlone(t, api.Deed{Kind: kind, A: 1, B: b, C: c}, x)
				}
			}
		}
	}
}

func wantAlone(t *testing.T, d api.Deed, x int) {
	t.Helper()
	first := []int{7, x, 8}
	real := cells(first)
	d.N, d.Ok = doneBy(real, d)
	left := real.Values()
	good := inRow(load(1, x), d, load(1, left[1]), load(0, 7), load(2, 8))
	wantOrder(t, "P20.1", first, good, 0, 1, 2, 3, 4)
	for _, spoil := range []func(l []api.Deed){
		func(l []api.Deed) { l[1].N++ },
		func(l []api.Deed) { l[1].N-- },
		func(l []api.Deed) { l[1].N ^= math.MinInt },
		func(l []api.Deed) { l[1].Ok = !l[1].Ok },
		func(l []api.Deed) { l[2].N++ },
		func(l []api.Deed) { l[3].N++ },
		func(l []api.Deed) { l[4].N++ },
	} {
		bad := slices.Clone(good)
		spoil(bad)
		wantNone(t, "P20.1", first, bad)
	}
}

// P20.1: of each kind, in plain numbers.
func TestKinds(t *testing.T) {
	for name, c := range map[string]struct {
		d    api.Deed
		left int
		fits bool
	}{
		"Load":                      {load(0, 3), 3, true},
		"Load of something else":    {load(0, 4), 3, false},
		"Load with Ok":              {api.Deed{Kind: 1, N: 3, Ok: true}, 3, false},
		"Load with B and C":         {api.Deed{Kind: 1, N: 3, B: 8, C: 9}, 3, true},
		"Store":                     {store(0, 9), 9, true},
		"Store that tells it":       {api.Deed{Kind: 2, B: 9, N: 9}, 9, false},
		"Store that tells 3":        {api.Deed{Kind: 2, B: 9, N: 3}, 9, false},
		"Store with Ok":             {api.Deed{Kind: 2, B: 9, Ok: true}, 9, false},
		"Store with C":              {api.Deed{Kind: 2, B: 9, C: 4}, 9, true},
		"Add":                       {add(0, 4, 7), 7, true},
		"Add that tells what was":   {add(0, 4, 3), 7, false},
		"Add with Ok":               {api.Deed{Kind: 3, B: 4, N: 7, Ok: true}, 7, false},
		"Swap":                      {swap(0, 9, 3), 9, true},
		"Swap that tells what is":   {swap(0, 9, 9), 9, false},
		"Swap with Ok":              {api.Deed{Kind: 4, B: 9, N: 3, Ok: true}, 9, false},
		"Cas":                       {cas(0, 3, 9, true), 9, true},
		"Cas, as if it failed":      {cas(0, 3, 9, false), 9, false},
		"Cas that fails":            {cas(0, 4, 9, false), 3, true},
		"Cas, as if it hadn't":      {cas(0, 4, 9, true), 3, false},
		"Cas to what is there":      {cas(0, 3, 3, true), 3, true},
		"Cas that fails to the old": {cas(0, 9, 3, false), 3, true},
		"Cas with N":                {api.Deed{Kind: 5, B: 3, C: 9, Ok: true, N: 9}, 9, false},
		"Cas that fails with N":     {api.Deed{Kind: 5, B: 4, C: 9, N: 3}, 3, false},
		"Most above":                {most(0, 9, 9), 9, true},
		"Most above, as if below":   {most(0, 9, 3), 9, false},
		"Most at":                   {most(0, 3, 3), 3, true},
		"Most below":                {most(0, 2, 3), 3, true},
		"Most below, as if above":   {most(0, 2, 2), 3, false},
		"Most with Ok":              {api.Deed{Kind: 6, B: 9, N: 9, Ok: true}, 9, false},
		"Least below":               {least(0, 2, 2), 2, true},
		"Least below, as if above":  {least(0, 2, 3), 2, false},
		"Least at":                  {least(0, 3, 3), 3, true},
		"Least above":               {least(0, 9, 3), 3, true},
		"Least above, as if below":  {least(0, 9, 9), 3, false},
		"Least with Ok":             {api.Deed{Kind: 7, B: 2, N: 2, Ok: true}, 2, false},
	} {
		l := inRow(c.d, load(0, c.left))
		if !c.fits {
			wantNone(t, "P20.1: "+name, []int{3}, l)
			wantNone(t, "P20.1: "+name, []int{3}, l[:1])
			continue
		}
		wantOrder(t, "P20.1: "+name, []int{3}, l, 0, 1)
		l[1].N = c.left + 1
		wantNone(t, "P20.1: "+name+", and something else is there then", []int{3}, l)
	}
}

// P20.1: sums go round.
func TestSumsGoRound(t *testing.T) {
	wantOrder(t, "P20.1", []int{math.MaxInt}, inRow(add(0, 1, math.MinInt), add(0, -1, math.MaxInt), add(0, math.MinInt, -1)), 0, 1, 2)
	wantOrder(t, "P20.1", []int{math.MinInt}, inRow(add(0, math.MinInt, 0), load(0, 0)), 0, 1)
	wantOrder(t, "P20.1", []int{math.MinInt}, inRow(add(0, -1, math.MaxInt), most(0, 5, math.MaxInt), least(0, math.MinInt, math.MinInt)), 0, 1, 2)
	wantOrder(t, "P20.1", []int{0}, []api.Deed{open(1, add(0, math.MaxInt, 0)), open(1, add(0, math.MaxInt, 0)), at(1, 1, load(0, -2))}, 0, 1, 2)
}

// P20.2: times alone tell who was ahead, also the greatest ones.
func TestAheadInOrder(t *testing.T) {
	const last = math.MaxInt
	for name, c := range map[string]struct {
		l    []api.Deed
		want []int
	}{
		"it began where the other one ended":      {[]api.Deed{at(1, 3, store(0, 1)), at(3, 5, load(0, 0))}, []int{1, 0}},
		"it began behind":                         {[]api.Deed{at(1, 3, store(0, 1)), at(4, 5, load(0, 0))}, nil},
		"it ended where the other one began":      {[]api.Deed{at(3, 5, store(0, 1)), at(1, 3, load(0, 1))}, []int{0, 1}},
		"it ended ahead":                          {[]api.Deed{at(3, 5, store(0, 1)), at(1, 2, load(0, 1))}, nil},
		"at the end of time, at once":             {[]api.Deed{at(last, last, store(0, 1)), at(last, last, load(0, 0))}, []int{1, 0}},
		"at the end of time, behind":              {[]api.Deed{at(last-1, last-1, store(0, 1)), at(last, last, load(0, 0))}, nil},
		"an open one was ahead of nobody":         {[]api.Deed{open(1, store(0, 1)), at(9, 9, load(0, 0))}, []int{1}},
		"an open one stands":                      {[]api.Deed{open(1, store(0, 1)), at(9, 9, load(0, 1))}, []int{0, 1}},
		"an open one stands later":                {[]api.Deed{open(1, store(0, 1)), at(8, 8, load(0, 0)), at(9, 9, load(0, 1))}, []int{1, 0, 2}},
		"an open one that began too late":         {[]api.Deed{open(4, store(0, 1)), at(3, 3, load(0, 1))}, nil},
		"an open one that began just then":        {[]api.Deed{open(3, store(0, 1)), at(3, 3, load(0, 1))}, []int{0, 1}},
		"behind what is of another cell":          {[]api.Deed{open(4, store(0, 1)), at(5, 5, load(0, 1)), at(3, 3, load(1, 0))}, []int{2, 0, 1}},
		"of other cells, by time":                 {[]api.Deed{at(5, 5, load(0, 0)), at(3, 3, load(1, 0)), at(1, 1, load(0, 0))}, []int{2, 1, 0}},
		"of other cells, at once, by their place": {[]api.Deed{at(1, 5, load(1, 0)), at(1, 5, load(0, 0)), at(1, 5, load(1, 0))}, []int{0, 1, 2}},
	} {
		if c.want == nil {
			wantNone(t, "P20.2: "+name, []int{0, 0}, c.l)
			continue
		}
		wantOrder(t, "P20.2: "+name, []int{0, 0}, c.l, c.want...)
	}
}

// P20.2: open ones stand in the order where the least place asks for them, or the others need them.
func TestOpenDeeds(t *testing.T) {
	for name, c := range map[string]struct {
		l    []api.Deed
		want []int
	}{
		"none has ended":                        {[]api.Deed{open(1, store(0, 1)), open(1, load(0, 0))}, []int{}},
		"one that changes nothing stands first": {[]api.Deed{open(1, load(0, 0)), at(1, 1, load(0, 0))}, []int{0, 1}},
		"not behind the last that has ended":    {[]api.Deed{at(1, 1, load(0, 0)), open(1, load(0, 0)), open(1, store(0, 1))}, []int{0}},
		"not in the way":                        {[]api.Deed{open(1, store(0, 1)), at(1, 1, load(0, 0))}, []int{1}},
		"of another cell, it stands":            {[]api.Deed{open(1, store(1, 1)), at(1, 1, load(0, 0))}, []int{0, 1}},
		"of another cell, when its time comes":  {[]api.Deed{open(2, store(1, 1)), at(1, 1, load(0, 0)), at(3, 3, load(0, 0))}, []int{1, 0, 2}},
		"two of three":                          {[]api.Deed{open(1, add(0, 1, 0)), open(1, add(0, 2, 0)), open(1, add(0, 4, 0)), at(1, 1, load(0, 5))}, []int{0, 2, 3}},
		"two of three, another sum":             {[]api.Deed{open(1, add(0, 1, 0)), open(1, add(0, 2, 0)), open(1, add(0, 4, 0)), at(1, 1, load(0, 6))}, []int{1, 2, 3}},
		"the other one is left out":             {[]api.Deed{open(1, store(0, 1)), open(1, store(0, 2)), at(1, 1, load(0, 1))}, []int{0, 2}},
		"a later one ahead of an earlier one":   {[]api.Deed{open(1, store(0, 1)), open(1, store(0, 2)), at(1, 1, load(0, 2)), at(2, 2, load(0, 1))}, []int{1, 2, 0, 3}},
		"a Cas that goes well":                  {[]api.Deed{open(1, cas(0, 0, 5, false)), at(1, 1, load(0, 5))}, []int{0, 1}},
		"a Cas that fails stands, too":          {[]api.Deed{open(1, cas(0, 3, 5, false)), at(1, 1, load(0, 0))}, []int{0, 1}},
		"a Cas that must not go well":           {[]api.Deed{open(1, cas(0, 0, 5, false)), at(1, 1, load(0, 0))}, []int{1}},
		"a Cas behind a Store":                  {[]api.Deed{open(1, cas(0, 3, 5, false)), open(1, store(0, 3)), at(1, 1, load(0, 5))}, []int{1, 0, 2}},
		"a Swap":                                {[]api.Deed{open(1, swap(0, 5, 0)), at(1, 1, load(0, 5))}, []int{0, 1}},
		"a Most":                                {[]api.Deed{open(1, most(0, 5, 0)), at(1, 1, load(0, 5))}, []int{0, 1}},
		"a Most that changes nothing":           {[]api.Deed{open(1, most(0, -5, 0)), at(1, 1, load(0, 0))}, []int{0, 1}},
		"a Least":                               {[]api.Deed{open(1, least(0, -5, 0)), at(1, 1, load(0, -5))}, []int{0, 1}},
		"a Least left out":                      {[]api.Deed{open(1, least(0, -5, 0)), at(1, 1, load(0, 0))}, []int{1}},
		"what none makes":                       {[]api.Deed{open(1, add(0, 1, 0)), open(1, add(0, 2, 0)), at(1, 1, load(0, 4))}, nil},
		"each once":                             {[]api.Deed{open(1, add(0, 1, 0)), at(1, 1, load(0, 2))}, nil},
	} {
		// What an open one tells beside is not looked at.
		for _, told := range []api.Deed{{}, {N: 5}, {N: -1, Ok: true}, {N: math.MinInt, Ok: true}} {
			l := slices.Clone(c.l)
			for i := range l {
				if l[i].End == 0 {
					l[i].N, l[i].Ok = told.N, told.Ok
				}
			}
			if c.want == nil {
				wantNone(t, "P20.2: "+name, []int{0, 0}, l)
				continue
			}
			wantOrder(t, "P20.2: "+name, []int{0, 0}, l, c.want...)
		}
	}
}

// P20.2: where there are several orders, the least one is told, place by place.
func TestLeastOrder(t *testing.T) {
	for name, c := range map[string]struct {
		l    []api.Deed
		want []int
	}{
		"all orders":                    {atOnce(1, 1, load(0, 0), load(0, 0), load(0, 0)), []int{0, 1, 2}},
		"times against places":          {[]api.Deed{at(3, 3, load(0, 0)), at(2, 2, load(0, 0)), at(1, 1, load(0, 0))}, []int{2, 1, 0}},
		"the last Store is told":        {append(atOnce(1, 1, store(0, 1), store(0, 2), store(0, 3)), at(2, 2, load(0, 1))), []int{1, 2, 0, 3}},
		"the last but one":              {append(atOnce(1, 1, store(0, 1), store(0, 2), store(0, 3)), at(2, 2, load(0, 2))), []int{0, 2, 1, 3}},
		"the last one":                  {append(atOnce(1, 1, store(0, 1), store(0, 2), store(0, 3)), at(2, 2, load(0, 3))), []int{0, 1, 2, 3}},
		"Adds by their sums":            {atOnce(1, 1, add(0, 1, 6), add(0, 2, 5), add(0, 3, 3)), []int{2, 1, 0}},
		"Adds in a way that turns back": {atOnce(1, 1, add(0, 1, 1), add(0, -1, 0), add(0, 1, 1)), []int{0, 1, 2}},
		"Swaps as a chain":              {atOnce(1, 1, swap(0, 1, 2), swap(0, 2, 3), swap(0, 3, 0)), []int{2, 1, 0}},
		"a first step that can't be":    {atOnce(1, 1, cas(0, 2, 3, true), cas(0, 1, 2, true), cas(0, 0, 1, true)), []int{2, 1, 0}},
		"two cells side by side":        {atOnce(1, 1, load(0, 1), load(1, 1), store(1, 1), store(0, 1)), []int{2, 1, 3, 0}},
		"the first one can wait":        {atOnce(1, 1, load(0, 1), load(0, 0), store(0, 1)), []int{1, 2, 0}},
		"it looks right, and isn't":     {atOnce(1, 1, store(0, 0), store(0, 1), load(0, 0), cas(0, 1, 2, true)), []int{0, 2, 1, 3}},
	} {
		wantOrder(t, "P20.2: "+name, []int{0, 0}, c.l, c.want...)
	}
	for n := 1; n <= 8; n++ {
		for last := range n {
			var l []api.Deed
			for i := range n {
				l = append(l, at(1, 1, store(0, i)))
			}
			l = append(l, at(2, 2, load(0, last)))
			want := append(slices.Delete(upTo(n), last, last+1), last, n)
			wantOrder(t, fmt.Sprintf("P20.2: the last one of %d Stores is %d", n, last), []int{-1}, l, want...)
		}
	}
}

// P20.2: where there is no order: nothing, and false.
func TestNoOrder(t *testing.T) {
	for name, l := range map[string][]api.Deed{
		"back again":              {at(1, 4, store(0, 1)), at(2, 2, load(0, 1)), at(3, 3, load(0, 0))},
		"two saw unlike orders":   append(atOnce(1, 9, store(0, 1), store(0, 2)), at(2, 2, load(0, 1)), at(3, 3, load(0, 2)), at(2, 2, load(0, 2)), at(3, 3, load(0, 1))),
		"one Cas too many":        atOnce(1, 1, cas(0, 0, 1, true), cas(0, 0, 2, true)),
		"one Add is lost":         append(atOnce(1, 1, add(0, 1, 1), add(0, 1, 1)), at(2, 2, load(0, 1))),
		"out of thin air":         inRow(load(0, 5)),
		"the other cell":          {at(1, 1, store(1, 5)), at(2, 2, load(0, 5))},
		"one cell fits, one not":  {at(1, 1, load(0, 0)), at(1, 1, load(1, 5))},
		"the last one doesn't":    append(atOnce(1, 1, load(0, 0), load(1, 0), open(1, load(0, 0))), at(2, 2, load(0, 1))),
		"a Most that goes down":   inRow(most(0, 5, 5), most(0, 9, 9), load(0, 5)),
		"beside many open Stores": append(atOnce(1, 0, store(0, 1), store(0, 2), store(0, 3)), at(2, 2, load(0, 4))),
	} {
		wantNone(t, "P20.2: "+name, []int{0, 0}, l)
	}
}
