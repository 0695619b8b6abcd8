package audit_test

import (
	"math"
	"slices"
	"testing"

	"skein/api"
	"skein/crew"
	"skein/store"
)

// The calls of store's Play, by their names.
func get(key int) api.Call              { return api.Call{Kind: 1, A: key} }
func put(key, value int) api.Call       { return api.Call{Kind: 2, A: key, B: value} }
func drop(key int) api.Call             { return api.Call{Kind: 3, A: key} }
func swap(key, old, value int) api.Call { return api.Call{Kind: 4, A: key, B: old, C: value} }
func many(numbers ...int) api.Call      { return api.Call{Kind: 5, Pairs: pairs(numbers...)} }
func snap(register int) api.Call        { return api.Call{Kind: 6, A: register} }
func free(register int) api.Call        { return api.Call{Kind: 7, A: register} }
func peek(register, key int) api.Call   { return api.Call{Kind: 8, A: register, B: key} }
func name(name, register int) api.Call  { return api.Call{Kind: 9, A: name, B: register} }
func unname(name int) api.Call          { return api.Call{Kind: 10, A: name} }
func peekNamed(name, key int) api.Call  { return api.Call{Kind: 11, A: name, B: key} }
func trim(part int) api.Call            { return api.Call{Kind: 12, A: part} }
func advance() api.Call                 { return api.Call{Kind: 13} }
func collect() api.Call                 { return api.Call{Kind: 14} }
func names() api.Call                   { return api.Call{Kind: 15} }

// far: a key of the second one of two parts.
const far = 4000000000

const (
	lowest  = math.MinInt
	highest = math.MaxInt
)

// pairs: a key and its value, by turns.
func pairs(numbers ...int) []api.Pair {
	var list []api.Pair
	for i := 0; i < len(numbers); i += 2 {
		list = append(list, api.Pair{Key: numbers[i], Value: numbers[i+1]})
	}
	return list
}

func work(calls ...[]api.Call) api.Case { return api.Case{Work: calls} }

// handle: of a slot and a generation.
func handle(slot, gen int) int { return slot<<40 + gen }

// What a slot is for.
func version(part, number int) api.Use {
	return api.Use{Kind: 2, Part: part, From: number, To: number}
}
func node(part, from, to int) api.Use { return api.Use{Kind: 3, Part: part, From: from, To: to} }
func waits(worker int) api.Use        { return api.Use{Kind: 4, Worker: worker} }

var (
	isFree  = api.Use{Kind: 1}
	isOther = api.Use{Kind: 5}
)

// plain: two parts, of which each has a key; the first one's is 1, the second one's far.
var plain = api.Setup{Parts: 2, Workers: 3, Slots: 40, Leases: 2, Source: pairs(1, 10, far, 20)}

func newMap(t *testing.T, s api.Setup) *store.Store {
	t.Helper()
	m, err := store.New(s)
	if err != api.OK {
		t.Fatalf("New(%+v): %v", s, err)
	}
	return m
}

// ran does a case over a new map.
func ran(t *testing.T, s api.Setup, c api.Case) (*store.Store, api.Run) {
	t.Helper()
	m := newMap(t, s)
	run, err := crew.Run(c, store.NewCalls(m))
	if err != api.OK {
		t.Fatalf("Run(%+v): %v", c, err)
	}
	return m, run
}

// after makes a map of the plain setup, behind some calls of worker 0, none of which answers an error.
func after(t *testing.T, calls ...api.Call) *store.Store {
	t.Helper()
	return afterOf(t, plain, calls...)
}

func afterOf(t *testing.T, s api.Setup, calls ...api.Call) *store.Store {
	t.Helper()
	m := newMap(t, s)
	do(t, m, calls...)
	return m
}

func do(t *testing.T, m *store.Store, calls ...api.Call) {
	t.Helper()
	c := store.NewCalls(m)
	for _, x := range calls {
		if a := c.Do(nil, x); a.Err != api.OK {
			t.Fatalf("%+v: %+v", x, a)
		}
	}
}

// byWorker does something as a worker of that number, who has no other call; nobody else does any.
func byWorker(t *testing.T, k int, f func(w *crew.Worker)) {
	t.Helper()
	c := work(append(make([][]api.Call, k), []api.Call{{}})...)
	if run, err := crew.Run(c, does(func(w *crew.Worker, x api.Call) api.Answer {
		f(w)
		return api.Answer{}
	})); err != api.OK || len(run.Answers[k]) != 1 || run.Answers[k][0].Err != api.OK {
		t.Fatalf("worker %d: %+v, %v", k, run, err)
	}
}

// haltedBy does so many lines of something as a worker of that number, and no more.
func haltedBy(t *testing.T, k, lines int, f func(w *crew.Worker)) {
	t.Helper()
	c := work(append(make([][]api.Call, k), []api.Call{{}})...)
	c.Halt = append(make([]int, k), lines)
	if run, err := crew.Run(c, does(func(w *crew.Worker, x api.Call) api.Answer {
		f(w)
		return api.Answer{}
	})); err != api.OK || run.Steps != lines || len(run.Open) != 1 {
		t.Fatalf("worker %d, halted behind %d lines: %+v, %v", k, lines, run, err)
	}
}

// does: a function as what a call does.
type does func(w *crew.Worker, c api.Call) api.Answer

func (f does) Do(w *crew.Worker, c api.Call) api.Answer { return f(w, c) }

// mixer: numbers that look mixed, the same ones each time.
type mixer uint64

func (m *mixer) below(n int) int {
	*m = *m*6364136223846793005 + 1442695040888963407
	return int(uint64(*m) >> 33 % uint64(n))
}

func (m *mixer) maybe() bool { return m.below(2) == 0 }

func one[T any](m *mixer, list []T) T { return list[m.below(len(list))] }

// orders calls f with every list of so many turns of so many workers.
func orders(workers, turns int, f func(turns []int)) {
	list := make([]int, turns)
	for {
		f(list)
		i := 0
		for i < turns && list[i] == workers-1 {
			list[i] = 0
			i++
		}
		if i == turns {
			return
		}
		list[i]++
	}
}

// takesLong is for a test whose calls go by turns: where the race detector looks on, it would find no more than the others do.
func takesLong(t *testing.T) {
	t.Helper()
	if testing.Short() {
		t.Skip("it takes long")
	}
}

// must takes the answer of what can't go wrong.
func must[T any](t *testing.T) func(x T, err api.Errno) T {
	return func(x T, err api.Errno) T {
		t.Helper()
		if err != api.OK {
			t.Fatalf("err %d", err)
		}
		return x
	}
}

// linesOf: how many lines calls of worker 0 do, one behind the other.
func linesOf(t *testing.T, s api.Setup, calls ...api.Call) int {
	t.Helper()
	_, run := ran(t, s, work(calls))
	return run.Steps
}

// count: how many of a list are as asked.
func count[T any](list []T, is func(T) bool) int {
	return len(list) - len(slices.DeleteFunc(slices.Clone(list), is))
}
