package sheet_test

import (
	"slices"
	"strings"
	"testing"

	"skein/api"
	"skein/sheet"
)

// mostPlay: how long an answer may be.
const mostPlay = 4194304

// wantTold asks for what is told of a run and its rows.
func wantTold(t *testing.T, run api.Run, rows [][]int, want ...string) {
	t.Helper()
	if told := sheet.Tell(run, rows); told != strings.Join(want, "\n")+"\n" {
		t.Errorf("P22.9: %q, want %q", told, want)
	}
}

// answered: a run of one worker with one answer.
func answered(a api.Answer) api.Run { return api.Run{Answers: [][]api.Answer{{a}}} }

// P22.9: each of an answer's words, with and without each of the others.
func TestAnswers(t *testing.T) {
	for which := range 16 {
		a := api.Answer{Begin: 2, End: 7, Own: 5, N: -3, M: 4}
		want := "call 1 begin 2 end 7 own 5"
		if which&1 != 0 {
			a.Ok = true
			want += " ok"
		}
		want += " n -3 m 4"
		if which&2 != 0 {
			a.Err = 161
			want += " err 161"
		}
		if which&4 != 0 {
			a.Ints = []int{1, 0, -5}
			want += " ints 1 0 -5"
		}
		if which&8 != 0 {
			a.Pairs = []api.Pair{{Key: 1, Value: 10}, {Key: 0, Value: -1}}
			want += " pairs 1 10 0 -1"
		}
		wantTold(t, answered(a), nil, "worker 0", want, "steps 0")
	}
	wantTold(t, answered(api.Answer{Ints: []int{}, Pairs: []api.Pair{}}), nil, "worker 0", "call 1 begin 0 end 0 own 0 n 0 m 0", "steps 0")
	wantTold(t, answered(api.Answer{Ints: []int{0}, Pairs: []api.Pair{{}}}), nil, "worker 0", "call 1 begin 0 end 0 own 0 n 0 m 0 ints 0 pairs 0 0", "steps 0")
	wantTold(t, answered(api.Answer{N: 1<<63 - 1, M: -1 << 63}), nil, "worker 0", "call 1 begin 0 end 0 own 0 n 9223372036854775807 m -9223372036854775808", "steps 0")
}

// P22.9: the lines, in their order.
func TestLines(t *testing.T) {
	a := api.Answer{Begin: 1, End: 1, Own: 1}
	wantTold(t, api.Run{}, nil, "steps 0")
	wantTold(t, api.Run{Answers: make([][]api.Answer, 3), Steps: 5}, nil, "worker 0", "worker 1", "worker 2", "steps 5")
	wantTold(t, api.Run{Answers: [][]api.Answer{{a, a}, nil, {a}}, Steps: 9, Cut: true, Open: []api.Open{{Worker: 0, Begin: 3, Own: 2}, {Worker: 2, Begin: 5, Own: 1}}}, [][]int{{1, 40, 0}, nil, {}, {0}, {-1, 2}},
		"worker 0", "call 1 begin 1 end 1 own 1 n 0 m 0", "call 2 begin 1 end 1 own 1 n 0 m 0", "worker 1", "worker 2", "call 1 begin 1 end 1 own 1 n 0 m 0",
		"open 0 begin 3 own 2", "open 2 begin 5 own 1", "steps 9 cut", "row 1 40 0", "row", "row", "row 0", "row -1 2")
}

// great: a run of one worker, with an answer whose line, with the worker's ahead of it, has so many bytes.
func great(bytes int) api.Run {
	const least = "worker 0\ncall 1 begin 0 end 0 own 0 n 0 m 0 ints\n"
	left := bytes - len(least)
	ints := slices.Repeat([]int{1}, left/2)
	if left%2 != 0 {
		ints[0] = 11
	}
	return answered(api.Answer{Ints: ints})
}

// P22.9: an answer of just MaxPlay bytes is whole; of one that would be longer the line that has no room isn't there, nor anything behind it, and the line more is the last one.
func TestMostPlay(t *testing.T) {
	const end = "steps 0\nrow 1\nrow\nrow 2 3\n"
	rows := [][]int{{1}, nil, {2, 3}}
	for left := range len(end) + 6 {
		run := great(mostPlay - left)
		told := sheet.Tell(run, rows)
		rest := told[min(len(told), mostPlay-left):]
		want := ""
		for _, line := range strings.SplitAfter(end, "\n") {
			if len(want)+len(line) > left {
				want += "more\n"
				break
			}
			want += line
		}
		if rest != want || !strings.HasPrefix(told, "worker 0\ncall 1 begin 0 end 0 own 0 n 0 m 0 ints 1") || told[mostPlay-left-1] != '\n' {
			t.Errorf("P22.9: with %d bytes left: %d bytes, of which the last ones %q, want %q", left, len(told), rest, want)
		}
	}
}

// P22.9: where the line that has no room is a worker's, an answer's, an open call's.
func TestMoreInTheMidst(t *testing.T) {
	told := sheet.Tell(great(mostPlay+1), [][]int{{1}})
	if told != "worker 0\nmore\n" {
		t.Errorf("P22.9: %d bytes", len(told))
	}
	run := great(mostPlay - 30)
	run.Answers[0] = append(run.Answers[0], api.Answer{}, api.Answer{})
	run.Open = []api.Open{{Worker: 1}}
	wantEnd := func(run api.Run, at int, want string) {
		t.Helper()
		if told := sheet.Tell(run, nil); told[at:] != want {
			t.Errorf("P22.9: %q, want %q", told[at:], want)
		}
	}
	wantEnd(run, mostPlay-30, "more\n")
	run.Answers = append(run.Answers[:0], run.Answers[0][:1], nil)
	wantEnd(run, mostPlay-30, "worker 1\nopen 1 begin 0 own 0\nmore\n")
	run = great(mostPlay - 8)
	run.Answers = append(run.Answers, nil)
	wantEnd(run, mostPlay-8, "more\n")
	run = great(mostPlay - 20)
	run.Open = []api.Open{{Worker: 1}}
	wantEnd(run, mostPlay-20, "more\n")
	run = great(mostPlay - 10)
	run.Steps, run.Cut = 9, true
	wantEnd(run, mostPlay-10, "more\n")
	run.Cut = false
	wantEnd(run, mostPlay-10, "steps 9\n")
}

// A line that is longer than an answer may be; behind it shorter ones would have room, but aren't laid.
func TestLongLine(t *testing.T) {
	run := api.Run{Answers: [][]api.Answer{{{}, {Ints: make([]int, mostPlay)}, {}}, {{}}}}
	if told := sheet.Tell(run, [][]int{{1}}); told != "worker 0\ncall 1 begin 0 end 0 own 0 n 0 m 0\nmore\n" {
		t.Errorf("P22.9: %d bytes", len(told))
	}
	if told := sheet.Tell(api.Run{}, [][]int{make([]int, mostPlay), {1}}); told != "steps 0\nmore\n" {
		t.Errorf("P22.9: %d bytes", len(told))
	}
}
