package lazy_test

import (
	"runtime"
	"slices"
	"testing"
	"time"
	"weak"

	"skein/api"
	"skein/crew"
	"skein/lazy"
)

// asked: a Get's answer, Done behind it, and how often the maker was called till then.
type asked struct {
	value int
	err   api.Errno
	done  bool
	calls int
}

// value: a Once or a Retry.
type value interface {
	Get(w *crew.Worker) (int, api.Errno)
	Done(w *crew.Worker) bool
}

// wantAsked asks a value so often as answers are wanted; nothing is made ahead of that.
func wantAsked(t *testing.T, promise string, v value, calls *int, want ...asked) {
	t.Helper()
	if v.Done(nil) || *calls != 0 {
		t.Errorf("%s: ahead of the first Get: Done %v, %d calls", promise, v.Done(nil), *calls)
	}
	for i, w := range want {
		n, err := v.Get(nil)
		if got := (asked{n, err, v.Done(nil), *calls}); got != w {
			t.Errorf("%s: Get %d: %+v, want %+v", promise, i, got, w)
		}
	}
}

func TestExamplesOfOnceAndRetry(t *testing.T) {
	seven := &counted{told: makes(7)}
	wantAsked(t, "P7.1: the chapter's example 1", lazy.NewOnce(seven.ask), &seven.calls, asked{7, 0, true, 1}, asked{7, 0, true, 1})
	late := &counted{told: fails(1, 7)}
	no := asked{0, api.ErrLazyFail, false, 1}
	wantAsked(t, "P7.1: the chapter's example 1", lazy.NewOnce(late.ask), &late.calls, no, no, no, no)
	late = &counted{told: fails(1, 7)}
	wantAsked(t, "P7.2: the chapter's example 1", lazy.NewRetry(late.ask), &late.calls, no, asked{7, 0, true, 2}, asked{7, 0, true, 2})
	fell := &counted{told: falls(1, 7)}
	wantAsked(t, "P7.1: the chapter's example 1", lazy.NewOnce(fell.ask), &fell.calls, asked{0, api.ErrLazyPanic, false, 1})
	fell = &counted{told: falls(1, 7)}
	wantAsked(t, "P7.2: the chapter's example 1", lazy.NewRetry(fell.ask), &fell.calls, asked{0, api.ErrLazyPanic, false, 1})
}

func TestExampleOfATable(t *testing.T) {
	x := newTable(t, 3, func(i int) (int, bool) { return 10 * i, i != 1 })
	if l, err := x.All(nil); len(l) > 0 || err != api.ErrLazyFail {
		t.Errorf("P7.3: the chapter's example 2: All: %v, %v", l, err)
	}
	if l := x.Made(nil); !slices.Equal(l, []int{0}) {
		t.Errorf("P7.3: the chapter's example 2: Made: %v", l)
	}
	if v, err := x.Get(nil, 3); v != 0 || err != api.ErrLazyMaker {
		t.Errorf("P7.3: the chapter's example 2: Get(3): %d, %v", v, err)
	}
}

// Each value that may be is made, and kept for good, 0 as well.
func TestValuesThatAreMade(t *testing.T) {
	for _, v := range farNumbers {
		want := asked{v, 0, true, 1}
		m := &counted{told: makes(v)}
		wantAsked(t, "P7.1", lazy.NewOnce(m.ask), &m.calls, want, want, want, want)
		m = &counted{told: makes(v)}
		wantAsked(t, "P7.2", lazy.NewRetry(m.ask), &m.calls, want, want, want, want)
		x := newTable(t, 2, func(i int) (int, bool) { return v, i == 0 })
		for range 3 {
			if n, err := x.Get(nil, 0); n != v || err != api.OK || !slices.Equal(x.Made(nil), []int{0}) {
				t.Errorf("P7.3: a value of %d: %d, %v, Made %v", v, n, err, x.Made(nil))
			}
		}
	}
}

// What stands beside a failure counts for nothing, neither then nor later.
func TestValuesBesideAFailure(t *testing.T) {
	for _, v := range farNumbers {
		calls := 0
		f := func() (int, bool) { calls++; return v, calls > 2 }
		no := asked{0, api.ErrLazyFail, false, 1}
		wantAsked(t, "P7.1", lazy.NewOnce(f), &calls, no, no, no, no)
		calls = 0
		wantAsked(t, "P7.2", lazy.NewRetry(f), &calls, no, asked{0, api.ErrLazyFail, false, 2}, asked{v, 0, true, 3}, asked{v, 0, true, 3})
		x := newTable(t, 1, func(int) (int, bool) { return v, false })
		if n, err := x.Get(nil, 0); n != 0 || err != api.ErrLazyFail {
			t.Errorf("P7.3: %d beside a failure: %d, %v", v, n, err)
		}
		if l, err := x.All(nil); len(l) > 0 || err != api.ErrLazyFail || len(x.Made(nil)) > 0 {
			t.Errorf("P7.3: %d beside a failure: All: %v, %v, Made %v", v, l, err, x.Made(nil))
		}
	}
}

// wantCaught holds each kind of panic against a Once, a Retry and a table.
func wantCaught(t *testing.T) {
	t.Helper()
	for i := range 9 {
		calls := 0
		f := func() (int, bool) {
			calls++
			if calls < 3 {
				fall(i)
			}
			return 5, true
		}
		fell := asked{0, api.ErrLazyPanic, false, 1}
		wantAsked(t, "P7.1: a panic", lazy.NewOnce(f), &calls, fell, fell, fell, fell)
		calls = 0
		wantAsked(t, "P7.2: a panic", lazy.NewRetry(f), &calls, fell, asked{0, api.ErrLazyPanic, false, 2}, asked{5, 0, true, 3}, asked{5, 0, true, 3})
		x := newTable(t, 2, func(k int) (int, bool) {
			if k == 1 {
				fall(i)
			}
			return 6, true
		})
		for range 2 {
			if l, err := x.All(nil); len(l) > 0 || err != api.ErrLazyPanic || !slices.Equal(x.Made(nil), []int{0}) {
				t.Errorf("P7.3: panic %d: All: %v, %v, Made %v", i, l, err, x.Made(nil))
			}
		}
	}
}

func TestPanics(t *testing.T) { wantCaught(t) }

// A panic with nil may be one that recover can't tell from none.
func TestPanicsWithABareNil(t *testing.T) {
	t.Setenv("GODEBUG", "panicnil=1")
	wantCaught(t)
}

// A Once keeps the first thing that came of it; a Retry goes on, whichever way its maker failed.
func TestFailsAndFallsByTurns(t *testing.T) {
	script := func(deeds string) (func() (int, bool), *int) {
		calls := new(int)
		return func() (int, bool) {
			*calls++
			switch deeds[*calls-1] {
			case 'f':
				return *calls, false
			case 'p':
				panic(*calls)
			}
			return *calls, true
		}, calls
	}
	errs := map[byte]api.Errno{'f': api.ErrLazyFail, 'p': api.ErrLazyPanic, 'm': api.OK}
	for _, deeds := range []string{"m", "fm", "pm", "ffm", "fpm", "pfm", "ppm", "fpfpm", "ppffm", "pppppppppfm"} {
		f, calls := script(deeds)
		want := asked{0, errs[deeds[0]], false, 1}
		if deeds[0] == 'm' {
			want.value, want.done = 1, true
		}
		wantAsked(t, "P7.1: "+deeds, lazy.NewOnce(f), calls, want, want, want)
		f, calls = script(deeds)
		var list []asked
		for i := range deeds {
			list = append(list, asked{0, errs[deeds[i]], false, i + 1})
		}
		last := len(deeds)
		list[last-1] = asked{last, 0, true, last}
		wantAsked(t, "P7.2: "+deeds, lazy.NewRetry(f), calls, append(list, list[last-1], list[last-1])...)
	}
}

// A Retry asks as often as it takes.
func TestRetriesOften(t *testing.T) {
	for _, times := range []int{0, 1, 2, 63, 1000, 20000} {
		for _, told := range []api.Maker{fails(times, 9), falls(times, 9)} {
			m := &counted{told: told}
			r := lazy.NewRetry(m.ask)
			for i := range times {
				if v, err := r.Get(nil); v != 0 || err == api.OK || r.Done(nil) || m.calls != i+1 {
					t.Fatalf("P7.2: %+v: Get %d: %d, %v, called %d times", told, i, v, err, m.calls)
				}
			}
			for range 3 {
				if v, err := r.Get(nil); v != 9 || err != api.OK || !r.Done(nil) || m.calls != times+1 {
					t.Fatalf("P7.2: %+v: %d, %v, called %d times", told, v, err, m.calls)
				}
			}
		}
	}
}

// Two of one maker ask it for themselves.
func TestApart(t *testing.T) {
	m := &counted{told: fails(1, 7)}
	a, b, r := lazy.NewOnce(m.ask), lazy.NewOnce(m.ask), lazy.NewRetry(m.ask)
	if _, err := a.Get(nil); err != api.ErrLazyFail || b.Done(nil) || r.Done(nil) {
		t.Errorf("P7.1: the first one: %v", err)
	}
	if v, err := b.Get(nil); v != 7 || err != api.OK || a.Done(nil) || r.Done(nil) || m.calls != 2 {
		t.Errorf("P7.1: the second one: %d, %v", v, err)
	}
	if v, err := r.Get(nil); v != 7 || err != api.OK || m.calls != 3 {
		t.Errorf("P7.2: a Retry beside them: %d, %v", v, err)
	}
	if v, err := a.Get(nil); v != 0 || err != api.ErrLazyFail || m.calls != 3 {
		t.Errorf("P7.1: the first one again: %d, %v", v, err)
	}
}

var noTables = []int{lowest, lowest + 1, -1 << 32, -256, -1, 0, 257, 258, 512, 1 << 32, 1<<32 + 1, highest}

func TestNewTable(t *testing.T) {
	for _, n := range noTables {
		calls := 0
		if x, err := lazy.NewTable(n, func(int) (int, bool) { calls++; return 1, true }); x != nil || err != api.ErrLazyMaker || calls > 0 {
			t.Errorf("P7.3: NewTable(%d): %v, %v, %d calls", n, x, err, calls)
		}
	}
	for _, n := range []int{1, 2, 3, 63, 64, 255, 256} {
		var calls, want []int
		x := newTable(t, n, func(i int) (int, bool) { calls = append(calls, i); return 1000 - i, true })
		if l := x.Made(nil); len(l) > 0 || len(calls) > 0 {
			t.Errorf("P7.3: NewTable(%d): Made %v, called %v", n, l, calls)
		}
		var values []int
		for i := range n {
			want, values = append(want, i), append(values, 1000-i)
		}
		for range 2 {
			if l, err := x.All(nil); !slices.Equal(l, values) || err != api.OK || !slices.Equal(calls, want) || !slices.Equal(x.Made(nil), want) {
				t.Errorf("P7.3: All of %d: %v, %v, called %v, Made %v", n, l, err, calls, x.Made(nil))
			}
		}
		for i := range n {
			if v, err := x.Get(nil, i); v != 1000-i || err != api.OK || len(calls) != n {
				t.Errorf("P7.3: of %d: Get(%d): %d, %v", n, i, v, err)
			}
		}
	}
}

func TestTablePlaces(t *testing.T) {
	for _, n := range []int{1, 2, 3, 255, 256} {
		var calls []int
		x := newTable(t, n, func(i int) (int, bool) { calls = append(calls, i); return 7 * i, true })
		for _, i := range []int{lowest, lowest + 1, -1 << 32, -256, -n, -1, n, n + 1, 2 * n, 256, 257, 1 << 32, 1<<32 + 1, highest} {
			if v, err := x.Get(nil, i); v != 0 || err != api.ErrLazyMaker || len(calls) > 0 {
				t.Errorf("P7.3: of %d: Get(%d): %d, %v, called %v", n, i, v, err, calls)
			}
		}
		for range 3 {
			if v, err := x.Get(nil, n-1); v != 7*(n-1) || err != api.OK || !slices.Equal(calls, []int{n - 1}) || !slices.Equal(x.Made(nil), []int{n - 1}) {
				t.Errorf("P7.3: of %d: Get of the last one: %d, %v, called %v, Made %v", n, v, err, calls, x.Made(nil))
			}
		}
	}
}

// All asks up to the first one that answers an error, and not behind it.
func TestAllEndsAtAnError(t *testing.T) {
	const n = 6
	for bad := range n {
		for _, err := range []api.Errno{api.ErrLazyFail, api.ErrLazyPanic} {
			calls := make([]int, n)
			x := newTable(t, n, func(i int) (int, bool) {
				calls[i]++
				if i >= bad && err == api.ErrLazyPanic {
					panic(i)
				}
				return i, i < bad
			})
			want, made := make([]int, n), []int(nil)
			for i := range bad {
				want[i], made = 1, append(made, i)
			}
			want[bad] = 1
			for range 3 {
				if l, e := x.All(nil); len(l) > 0 || e != err || !slices.Equal(calls, want) || !slices.Equal(x.Made(nil), made) {
					t.Errorf("P7.3: %d is bad: All: %v, %v, called %v, Made %v", bad, l, e, calls, x.Made(nil))
				}
			}
		}
	}
}

// The first error of several is All's, also if a later one was asked first.
func TestAllTellsTheFirstError(t *testing.T) {
	for _, first := range []api.Errno{api.ErrLazyFail, api.ErrLazyPanic} {
		x := newTable(t, 4, func(i int) (int, bool) {
			if (i == 1) == (first == api.ErrLazyPanic) && i > 0 {
				panic(i)
			}
			return 0, i == 0
		})
		_, late := x.Get(nil, 2)
		if l, err := x.All(nil); len(l) > 0 || err != first || late == first {
			t.Errorf("P7.3: All: %v, %v behind %v, want %v", l, err, late, first)
		}
	}
}

func TestMadeBetweenGets(t *testing.T) {
	x := newTable(t, 8, func(i int) (int, bool) { return 0, i != 3 && i != 6 })
	var made []int
	for _, i := range []int{5, 3, 0, 7, 5, 9, 6, 1, -1, 4, 2, 3, 2} {
		x.Get(nil, i)
		if i >= 0 && i < 8 && i != 3 && i != 6 && !slices.Contains(made, i) {
			made = append(made, i)
			slices.Sort(made)
		}
		if l := x.Made(nil); !slices.Equal(l, made) {
			t.Errorf("P7.3: Made behind Get(%d): %v, want %v", i, l, made)
		}
	}
}

func TestTablesApart(t *testing.T) {
	f := func(i int) (int, bool) { return i, true }
	x, other := newTable(t, 3, f), newTable(t, 3, f)
	x.Get(nil, 1)
	if l := other.Made(nil); len(l) > 0 {
		t.Errorf("P7.3: another table: Made %v", l)
	}
}

// deed: a call behind some others, over deedMakers: what it answers, its lines, what came of the makers.
type deed struct {
	ahead  []api.Call
	call   api.Call
	answer api.Answer
	lines  int
	made   []api.Made
}

var deedMakers = []api.Maker{makes(5), makes(0), fails(1, 7), falls(2, 8)}

// tells: of each maker the calls of the Once, the Retry and the table's; what was made of it hangs on them.
func tells(calls ...[3]int) []api.Made {
	list := make([]api.Made, len(deedMakers))
	for i, three := range calls {
		list[i].Calls = three
		for k, n := range three {
			if n > deedMakers[i].Fails {
				list[i].Done[k], list[i].Values[k] = true, deedMakers[i].Value
			}
		}
	}
	return list
}

func deeds() []deed {
	failed, fell := api.Answer{Err: api.ErrLazyFail}, api.Answer{Err: api.ErrLazyPanic}
	no, yes := api.Answer{}, api.Answer{Ok: true}
	one := [3]int{1, 0, 0}
	onces := []api.Call{once(0), once(1), once(2), once(3)}
	wasOnces := tells(one, one, one, one)
	retries := []api.Call{retry(0), retry(1), retry(2), retry(2), retry(3), retry(3), retry(3)}
	wasRetries := tells([3]int{0, 1}, [3]int{0, 1}, [3]int{0, 2}, [3]int{0, 3})
	places := []api.Call{place(3), place(1), place(2)}
	wasPlaces := tells([3]int{}, [3]int{0, 0, 1}, [3]int{0, 0, 1}, [3]int{0, 0, 1})
	halfAll := tells([3]int{0, 0, 1}, [3]int{0, 0, 1}, [3]int{0, 0, 1})
	return []deed{
		{nil, once(0), api.Answer{N: 5}, 1, tells(one)},
		{nil, once(1), api.Answer{}, 1, tells([3]int{}, one)},
		{nil, once(2), failed, 1, tells([3]int{}, [3]int{}, one)},
		{nil, once(3), fell, 1, tells([3]int{}, [3]int{}, [3]int{}, one)},
		{onces, once(0), api.Answer{N: 5}, 1, wasOnces},
		{onces, once(1), api.Answer{}, 1, wasOnces},
		{onces, once(2), failed, 1, wasOnces},
		{onces, once(3), fell, 1, wasOnces},
		{retries, once(0), api.Answer{N: 5}, 1, tells([3]int{1, 1}, [3]int{0, 1}, [3]int{0, 2}, [3]int{0, 3})},
		{nil, retry(0), api.Answer{N: 5}, 1, tells([3]int{0, 1})},
		{nil, retry(1), api.Answer{}, 1, tells([3]int{}, [3]int{0, 1})},
		{nil, retry(2), failed, 1, tells([3]int{}, [3]int{}, [3]int{0, 1})},
		{nil, retry(3), fell, 1, tells([3]int{}, [3]int{}, [3]int{}, [3]int{0, 1})},
		{retries[2:3], retry(2), api.Answer{N: 7}, 1, tells([3]int{}, [3]int{}, [3]int{0, 2})},
		{retries[4:5], retry(3), fell, 1, tells([3]int{}, [3]int{}, [3]int{}, [3]int{0, 2})},
		{retries[4:6], retry(3), api.Answer{N: 8}, 1, tells([3]int{}, [3]int{}, [3]int{}, [3]int{0, 3})},
		{retries, retry(0), api.Answer{N: 5}, 1, wasRetries},
		{retries, retry(1), api.Answer{}, 1, wasRetries},
		{retries, retry(2), api.Answer{N: 7}, 1, wasRetries},
		{retries, retry(3), api.Answer{N: 8}, 1, wasRetries},
		{onces, retry(2), failed, 1, tells(one, one, [3]int{1, 1}, one)},
		{nil, place(0), api.Answer{N: 5}, 1, tells([3]int{0, 0, 1})},
		{nil, place(2), failed, 1, tells([3]int{}, [3]int{}, [3]int{0, 0, 1})},
		{places, place(1), api.Answer{}, 1, wasPlaces},
		{places, place(2), failed, 1, wasPlaces},
		{places, place(3), fell, 1, wasPlaces},
		{places, place(-1), api.Answer{Err: api.ErrLazyMaker}, 1, wasPlaces},
		{places, place(4), api.Answer{Err: api.ErrLazyMaker}, 1, wasPlaces},
		{nil, all(), failed, 3, halfAll},
		{[]api.Call{all()}, all(), failed, 3, halfAll},
		{places, all(), failed, 3, tells([3]int{0, 0, 1}, [3]int{0, 0, 1}, [3]int{0, 0, 1}, [3]int{0, 0, 1})},
		{nil, made(), api.Answer{}, 1, tells()},
		{[]api.Call{all()}, made(), api.Answer{Ints: []int{0, 1}}, 1, halfAll},
		{places, made(), api.Answer{Ints: []int{1}}, 1, wasPlaces},
		{slices.Concat(onces, retries), made(), api.Answer{}, 1, tells([3]int{1, 1}, [3]int{1, 1}, [3]int{1, 2}, [3]int{1, 3})},
		{nil, onceDone(0), no, 1, tells()},
		{onces, onceDone(0), yes, 1, wasOnces},
		{onces, onceDone(1), yes, 1, wasOnces},
		{onces, onceDone(2), no, 1, wasOnces},
		{onces, onceDone(3), no, 1, wasOnces},
		{retries, onceDone(0), no, 1, wasRetries},
		{places, onceDone(1), no, 1, wasPlaces},
		{nil, retryDone(0), no, 1, tells()},
		{onces, retryDone(0), no, 1, wasOnces},
		{retries, retryDone(0), yes, 1, wasRetries},
		{retries, retryDone(1), yes, 1, wasRetries},
		{retries, retryDone(3), yes, 1, wasRetries},
		{retries[:3], retryDone(2), no, 1, tells([3]int{0, 1}, [3]int{0, 1}, [3]int{0, 1})},
		{retries[:6], retryDone(3), no, 1, tells([3]int{0, 1}, [3]int{0, 1}, [3]int{0, 2}, [3]int{0, 2})},
		{places, retryDone(1), no, 1, wasPlaces},
	}
}

func TestDeedsAlone(t *testing.T) {
	for _, d := range deeds() {
		x := newThings(t, deedMakers)
		for _, c := range d.ahead {
			x.do(nil, c)
		}
		if a := x.do(nil, d.call); !sameAnswer(a, d.answer) {
			t.Errorf("P7.1 to P7.3: behind %+v: %+v: %+v, want %+v", d.ahead, d.call, a, d.answer)
		}
		if got := x.made(); !slices.Equal(got, d.made) {
			t.Errorf("P7.1 to P7.3: behind %+v: %+v left %+v, want %+v", d.ahead, d.call, got, d.made)
		}
	}
}

// A worker of a run counts the lines of a call that is called by its name; nothing of it is done ahead of its first line's step.
func TestDeedsByAWorker(t *testing.T) {
	for _, d := range deeds() {
		x := newThings(t, deedMakers)
		lines := 0
		m := newModel(deedMakers)
		for _, c := range d.ahead {
			for l, ended := m.begin(0, c), false; !ended; lines++ {
				_, ended = l()
			}
		}
		c := work([]api.Call{d.call}, d.ahead)
		c.Turns = []int{0}
		for range lines {
			c.Turns = append(c.Turns, 1)
		}
		run, _ := crew.Run(c, does(func(w *crew.Worker, call api.Call) api.Answer {
			if w.Number() == 0 {
				w.Step()
			}
			return x.do(w, call)
		}))
		if a := run.Answers[0][0]; !sameAnswer(a, d.answer) || a.Own != d.lines+1 || run.Steps != lines+d.lines+1 {
			t.Errorf("P7.1 to P7.3: behind %+v: %+v: %+v, want %+v in %d lines", d.ahead, d.call, a, d.answer, d.lines)
		}
		if got := x.made(); !slices.Equal(got, d.made) {
			t.Errorf("P7.1 to P7.3: behind %+v: %+v left %+v, want %+v", d.ahead, d.call, got, d.made)
		}
	}
}

func TestDeedsPlayed(t *testing.T) {
	for _, d := range deeds() {
		run, got, err := lazy.Play(deedMakers, work(append(slices.Clone(d.ahead), d.call)))
		if err != api.OK || !slices.Equal(got, d.made) || len(run.Answers[0]) != len(d.ahead)+1 || run.Cut || len(run.Open) > 0 {
			t.Errorf("P7.4: %+v, %+v: %+v, %+v, %v, want %+v", d.ahead, d.call, run, got, err, d.made)
			continue
		}
		a := run.Answers[0][len(d.ahead)]
		if !sameAnswer(a, d.answer) || a.Own != d.lines || a.Begin != run.Steps-d.lines+1 || a.End != run.Steps {
			t.Errorf("P7.4: %+v, %+v: %+v of %d steps, want %+v in %d lines", d.ahead, d.call, a, run.Steps, d.answer, d.lines)
		}
	}
}

// All has a line for each one that it asks, of the greatest table as well.
func TestAllByAWorker(t *testing.T) {
	for _, n := range []int{1, 2, 5, 256} {
		x := newTable(t, n, func(i int) (int, bool) { return 3 * i, true })
		run, _ := crew.Run(work([]api.Call{{}, {}}), does(func(w *crew.Worker, _ api.Call) api.Answer {
			list, err := x.All(w)
			return api.Answer{Ints: list, Err: err}
		}))
		for i, a := range run.Answers[0] {
			if a.Own != n || a.Err != api.OK || len(a.Ints) != n || a.Ints[n-1] != 3*(n-1) {
				t.Errorf("P7.3: All of %d, call %d: %d lines, %v, %v", n, i, a.Own, a.Ints, a.Err)
			}
		}
	}
}

// What was begun and never got its line has called no maker.
func TestHaltedAheadOfTheLine(t *testing.T) {
	for kind := 1; kind <= 7; kind++ {
		x := newThings(t, deedMakers)
		c := work([]api.Call{{Kind: kind}})
		c.Halt = []int{1}
		run, _ := crew.Run(c, does(func(w *crew.Worker, call api.Call) api.Answer {
			w.Step()
			return x.do(w, call)
		}))
		if got := x.made(); !slices.Equal(got, tells()) || len(run.Open) != 1 {
			t.Errorf("P7.1 to P7.3: kind %d, halted: %+v, %+v", kind, run, got)
		}
		// Nobody waits for who was halted.
		m := newModel(deedMakers)
		for again := 1; again <= 7; again++ {
			call := api.Call{Kind: again}
			if a, want := x.do(nil, call), m.alone(call); !sameAnswer(a, want) {
				t.Errorf("P7.1 to P7.3: behind a halted call of kind %d: %+v: %+v, want %+v", kind, call, a, want)
			}
		}
	}
}

func TestAloneAgainstModel(t *testing.T) {
	r := mixer(7)
	for range 400 {
		var makers []api.Maker
		for range 1 + r.below(6) {
			makers = append(makers, r.maker())
		}
		x, m := newThings(t, makers), newModel(makers)
		for range 60 {
			call := r.call(len(makers), true)
			if a, want := x.do(nil, call), m.alone(call); !sameAnswer(a, want) {
				t.Fatalf("P7.1 to P7.3: of %+v: %+v: %+v, want %+v", makers, call, a, want)
			}
		}
		if got := x.made(); !slices.Equal(got, m.made()) {
			t.Errorf("P7.1 to P7.3: of %+v: %+v, want %+v", makers, got, m.made())
		}
	}
}

// Calls by their names, by the workers of a run, do the same lines as Play's.
func TestByNameAgainstModel(t *testing.T) {
	mixedPlays(3000, true, func(x mixed) {
		th, m := newThings(t, x.makers), newModel(x.makers)
		got, _ := crew.Run(x.c, does(th.do))
		want, left := m.play(x.c)
		if !sameRun(got, want) || !slices.Equal(th.made(), left) {
			t.Fatalf("P7.1 to P7.3: %+v\ngot  %+v %+v\nwant %+v %+v", x, got, th.made(), want, left)
		}
	})
}

// writeOver writes into a list and all the spare room behind it.
func writeOver(list []int) {
	list = list[:cap(list)]
	for i := range list {
		list[i] = -99
	}
}

// What All and Made answer is their own: neither the table nor a later answer gets at it.
func TestTableKeepsToItsOwnMemory(t *testing.T) {
	x := newTable(t, 5, func(i int) (int, bool) { return 10 + i, true })
	var lists [][]int
	for i := range 5 {
		x.Get(nil, i)
		lists = append(lists, x.Made(nil))
	}
	for range 3 {
		l, _ := x.All(nil)
		lists = append(lists, l, x.Made(nil))
	}
	wants := [][]int{{0}, {0, 1}, {0, 1, 2}, {0, 1, 2, 3}, {0, 1, 2, 3, 4}}
	for range 3 {
		wants = append(wants, []int{10, 11, 12, 13, 14}, []int{0, 1, 2, 3, 4})
	}
	for i := range lists {
		if !slices.Equal(lists[i], wants[i]) {
			t.Errorf("P7.3: list %d: %v, want %v", i, lists[i], wants[i])
		}
		writeOver(lists[i])
	}
	all, _ := x.All(nil)
	if !slices.Equal(all, wants[5]) || !slices.Equal(x.Made(nil), wants[4]) {
		t.Errorf("P7.3: behind lists that were written over: %v, %v", all, x.Made(nil))
	}
}

// gone tells whether what a weak pointer stands for comes back.
func gone(p weak.Pointer[[100]int]) bool {
	for range 50 {
		runtime.GC()
		if p.Value() == nil {
			return true
		}
		time.Sleep(time.Millisecond)
	}
	return false
}

// A maker that is never called again isn't kept, nor what hangs on it.
func TestMakersGo(t *testing.T) {
	heavy := func() (func() (int, bool), weak.Pointer[[100]int]) {
		load := new([100]int)
		return func() (int, bool) { load[3]++; return load[3], load[3] < 9 }, weak.Make(load)
	}
	f, p := heavy()
	o := lazy.NewOnce(f)
	f, q := heavy()
	r := lazy.NewRetry(f)
	f = nil
	o.Get(nil)
	r.Get(nil)
	if !gone(p) || !gone(q) {
		t.Error("P7.1, P7.2: a maker is kept behind the value that it made")
	}
	if v, _ := o.Get(nil); v != 1 {
		t.Errorf("P7.1: %d", v)
	}
	if v, _ := r.Get(nil); v != 1 {
		t.Errorf("P7.2: %d", v)
	}
}
