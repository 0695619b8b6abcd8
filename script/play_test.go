package script_test

import (
	"fmt"
	"runtime"
	"strconv"
	"strings"
	"testing"
	"time"

	"skein/api"
	"skein/scan"
	"skein/script"
)

// wantPlay asks Play for a text.
func wantPlay(t *testing.T, what, text, want string) {
	t.Helper()
	told, err := script.Play(text)
	if err != nil || told != want {
		t.Errorf("%s: Play(%s): %s, %v, want %s", what, shown(text), told, err, want)
	}
}

// toldPlainly: the lines of a run and its rows, by the words of the document.
func toldPlainly(run api.Run, rows [][]int) string {
	text := ""
	line := func(words ...any) { text += strings.TrimSpace(fmt.Sprintln(words...)) + "\n" }
	for k, answers := range run.Answers {
		line("worker", k)
		for i, a := range answers {
			words := []any{"call", i + 1, "begin", a.Begin, "end", a.End, "own", a.Own}
			if a.Ok {
				words = append(words, "ok")
			}
			words = append(words, "n", a.N, "m", a.M)
			if a.Err != 0 {
				words = append(words, "err", int(a.Err))
			}
			if len(a.Ints) > 0 {
				words = append(words, "ints", strings.Trim(fmt.Sprint(a.Ints), "[]"))
			}
			if len(a.Pairs) > 0 {
				words = append(words, "pairs", strings.Join(pairWords(a.Pairs), " "))
			}
			line(words...)
		}
	}
	for _, o := range run.Open {
		line("open", o.Worker, "begin", o.Begin, "own", o.Own)
	}
	if run.Cut {
		line("steps", run.Steps, "cut")
	} else {
		line("steps", run.Steps)
	}
	for _, row := range rows {
		line("row", strings.Trim(fmt.Sprint(row), "[]"))
	}
	return text
}

// wantToldPlainly holds Play against what scan's Play answers of a script.
func wantToldPlainly(t *testing.T, what, text string, s api.Script) api.Run {
	t.Helper()
	run, rows, err := scan.Play(s.Setup, s.Case)
	if err != api.OK {
		wantPlay(t, what, text, "refused "+strconv.Itoa(int(err))+"\n")
		return api.Run{}
	}
	wantPlay(t, what, text, toldPlainly(run, rows))
	return run
}

// P22.9: what the map refuses is told by the error's number alone.
func TestPlayRefused(t *testing.T) {
	for _, first := range []string{
		"parts 0 workers 1 slots 40 leases 2", "parts 65 workers 1 slots 40 leases 2", "parts -1 workers 1 slots 40 leases 2", "parts 1 workers 0 slots 40 leases 2", "parts 1 workers 9 slots 40 leases 2",
		"parts 1 workers 1 slots 0 leases 2", "parts 1 workers 1 slots 4097 leases 2", "parts 1 workers 1 slots 40 leases 0", "parts 1 workers 1 slots 40 leases 65", "parts 1 workers 1 slots 40 leases 1152921504606846976 fails 1",
		"parts 1 workers 1 slots 40 leases 2\nsource -1 1", "parts 1 workers 1 slots 40 leases 2\nsource 4294967296 1",
	} {
		wantPlay(t, "P22.9", first+"\nworker\nget 1", "refused 181\n")
		wantPlay(t, "P22.9", first, "refused 181\n") // ahead of the case's error
		wantPlay(t, "P22.9", first+"\nworker\nuntil -1", "refused 181\n")
	}
	for _, rest := range []string{"", "turns 1", "halt 1 2", "source 5 50", "worker\nuntil -1", "worker\nuntil 20001", "worker\nget 1\nuntil 1152921504606846976", "until 1"} {
		wantPlay(t, "P22.9", head+rest, "refused 30\n")
	}
}

// P22.9: the fault of Parse, and nothing beside it.
func TestPlayFaults(t *testing.T) {
	wantFault(t, "P22.9", "parts 1 workers 1 slots 40 leases 2\nsource 5 50\nworker\nstate", 4, badWord)
	wantFault(t, "P22.9", "parts 0 workers 1 slots 40 leases 2\nworker\nget", 3, tooEarly) // a fault comes ahead of a refusal
	wantFault(t, "P22.9", head+"until 99999\nget 1", 3, badWord)
	wantFault(t, "P22.9", "", 1, tooEarly)
}

// P22.9: runs told line by line, byte by byte.
func TestPlay(t *testing.T) {
	wantPlay(t, "P22.9", head+"worker", "worker 0\nsteps 0\nrow 1 40 0\nrow 0 0\nrow\nrow 0\n")
	wantPlay(t, "P22.9", "parts 3 workers 1 slots 9 leases 1\nworker\nworker\nworker", "worker 0\nworker 1\nworker 2\nsteps 0\nrow 1 9 0\nrow 0\nrow\nrow 0\nrow 0\nrow 0\n")
	wantPlay(t, "P22.9", head+"source 5 50\nworker\nsnap 0\nput 5 51\npeek 0 5\nrange 0 0 9\nget 9\nget -1\nworker\nadvance\nuntil 1", "worker 0\nworker 1\nopen 0 begin 1 own 1\nsteps 1 cut\nrow 1 40 0\nrow 1 0\nrow\nrow 0\n")
	// Calls of one line each.
	wantPlay(t, "P22.9", head+lines("worker", "get -1", "names", "put 4294967296 1", "free 0", "peek 4 1", "trim 1", "diff 0 1", "range 0 0 9", "drop -5"), lines(
		"worker 0", "call 1 begin 1 end 1 own 1 n 0 m 0 err 161", "call 2 begin 2 end 2 own 1 ok n 0 m 0", "call 3 begin 3 end 3 own 1 n 0 m 0 err 161", "call 4 begin 4 end 4 own 1 n 0 m 0 err 182", "call 5 begin 5 end 5 own 1 n 0 m 0 err 180",
		"call 6 begin 6 end 6 own 1 n 0 m 0 err 151", "call 7 begin 7 end 7 own 1 n 0 m 0 err 182", "call 8 begin 8 end 8 own 1 n 0 m 0 err 182", "call 9 begin 9 end 9 own 1 n 0 m 0 err 161",
		"steps 9", "row 1 40 0", "row 0 0", "row", "row 0", ""))
	// Turns: the second worker's calls first; its second one is never begun, as it is halted.
	wantPlay(t, "P22.9", head+lines("worker", "names", "get -1", "worker", "names", "names", "turns 1 1 0 0", "halt 0 1"), lines(
		"worker 0", "call 1 begin 2 end 2 own 1 ok n 0 m 0", "call 2 begin 3 end 3 own 1 n 0 m 0 err 161", "worker 1", "call 1 begin 1 end 1 own 1 ok n 0 m 0",
		"steps 3", "row 1 40 0", "row 0 0", "row", "row 0", ""))
	// Both are in the midst of a Snap: one is halted there, and then the run is cut.
	wantPlay(t, "P22.9", head+lines("worker", "snap 0", "worker", "snap 0", "turns 0 1", "halt 1", "until 2"), lines(
		"worker 0", "worker 1", "open 0 begin 1 own 1", "open 1 begin 2 own 1", "steps 2 cut", "row 1 40 0", "row 1 0", "row", "row 0", ""))
	// An answer that isn't Ok and has no error.
	wantPlay(t, "P22.9", "parts 1 workers 1 slots 40 leases 2\nworker\nget 5\nget 5\n", playOf(t, "parts 1 workers 1 slots 40 leases 2\nworker\nget 5\nget 5\n"))
}

// playOf: what scan's Play tells of a text.
func playOf(t *testing.T, text string) string {
	t.Helper()
	s := wantRead(t, "P22.9", text)
	run, rows, err := scan.Play(s.Setup, s.Case)
	if err != api.OK {
		t.Fatalf("P22.9: %s: %v", shown(text), err)
	}
	return toldPlainly(run, rows)
}

// P22.9: all words of an answer: ok, n and m, err, ints, pairs, alone and beside one another.
func TestPlayAnswers(t *testing.T) {
	text := "parts 2 workers 1 slots 40 leases 3\n" + lines("source 1 10 4000000000 40", "worker", "snap 0", "put 1 11", "put 1 11", "get 1", "get 2", "peek 0 1", "snap 1", "diff 0 1", "range 0 0 4294967295", "count 1 0 9", "page 0 -1 1", "name 7 0", "name 3 1", "names", "unname 7", "snap 2", "many 1 2 3 4", "swap 1 3 5", "swap 1 2 5")
	told, err := script.Play(text)
	if err != nil || told != playOf(t, text) {
		t.Errorf("P22.9: %s, %v, want %s", told, err, playOf(t, text))
	}
	for number, want := range map[int]string{
		1:  " ok n 0 m 1",                          // a Snap: the lease, the stamp
		2:  " ok n 10 m 2 ints 1",                  // a Put that is New, where the key had 10
		3:  " n 11 m 2 ints 1",                     // one that published nothing
		4:  " ok n 11 m 2",                         // a Get
		5:  " n 0 m 2",                             // a Get of a key that isn't there
		6:  " ok n 10 m 1",                         // a Peek
		7:  " ok n 1 m 2",                          // the second Snap
		8:  " ok n 0 m 0 ints 1 1 10 1 11",         // a Diff
		9:  " ok n 0 m 0 pairs 1 10 4000000000 40", // a Range
		10: " ok n 1 m 0",                          // a Count
		11: " ok n 1 m 0 pairs 1 10",               // a Page, behind which there is one more
		12: " ok n 0 m 0",
		14: " ok n 0 m 0 pairs 3 2 7 1", // Names
	} {
		at := strings.Index(told, "\ncall "+strconv.Itoa(number)+" ") + 1
		line, _, _ := strings.Cut(told[at:], "\n")
		if _, rest, _ := strings.Cut(line, " own "); at == 0 || rest[strings.Index(rest+" ", " "):] != want {
			t.Errorf("P22.9: call %d: %q, want %q", number, line, want)
		}
	}
	// An error behind pairs that were given: the second part's loading fails.
	text = "parts 2 workers 1 slots 40 leases 1 fails 1\n" + lines("source 1 10 4000000000 40", "worker", "get 1", "get 1", "snap 0", "range 0 0 4294967295", "range 0 0 4294967295")
	if told, err := script.Play(text); err != nil || told != playOf(t, text) || !strings.Contains(told, " n 0 m 0 err 153 pairs 1 10\n") || !strings.Contains(told, " ok n 0 m 0 pairs 1 10 4000000000 40\n") {
		t.Errorf("P22.9: %s, %v", told, err)
	}
}

// playable makes a script of a map that may be, with calls that may go well.
func (m *mixer) playable() api.Script {
	keys := []int{0, 1, 2, 3, 5, 1 << 31, 4000000000, 1<<32 - 1, -1}
	var s api.Script
	s.Setup = api.Setup{Parts: 1 + m.below(3), Workers: 1 + m.below(4), Slots: 10 + m.below(60), Leases: 2 + m.below(4), Fails: max(0, m.below(6)-3)}
	for range m.below(5) {
		s.Setup.Source = append(s.Setup.Source, api.Pair{Key: keys[m.below(8)], Value: one(m, fewNumbers)})
	}
	for range 1 + m.below(4) {
		calls := []api.Call{{Kind: 6}}
		for range m.below(9) {
			c := api.Call{Kind: 1 + m.below(19)}
			for j, field := range []*int{&c.A, &c.B, &c.C} {
				if j >= fieldsOf[c.Kind-1] {
					break
				}
				switch {
				case c.Kind < 5 && j == 0, (c.Kind == 8 || c.Kind == 11) && j == 1, c.Kind > 15 && j > 0 && c.Kind < 19:
					*field = one(m, keys)
				case c.Kind < 5:
					*field = one(m, fewNumbers)
				default:
					*field = m.below(3)
				}
			}
			if c.Kind > 15 && c.Kind < 19 && m.maybe() {
				c.A, c.B, c.C = 0, 0, 1000 // register 0's, of which most are full, and a range that is one
			}
			if c.Kind == 5 {
				c.Pairs = pairs(keys[m.below(4)], m.below(9), keys[m.below(4)], m.below(9))
			}
			calls = append(calls, c)
		}
		s.Case.Work = append(s.Case.Work, calls)
	}
	for range m.below(60) {
		s.Case.Turns = append(s.Case.Turns, m.below(5)-1)
	}
	for range m.below(4) {
		s.Case.Halt = append(s.Case.Halt, max(0, m.below(40)-20))
	}
	if m.below(3) == 0 {
		s.Case.Until = 1 + m.below(80)
	}
	return s
}

// P22.9, P22.10: mixed scripts: what is told is what scan's Play answers, however the text is laid out.
func TestMixedPlays(t *testing.T) {
	var m mixer = 9
	seen := map[string]int{}
	for range often(3000) {
		s := m.playable()
		text, _ := m.dressed(m.text(s))
		run := wantToldPlainly(t, "P22.9", text, s)
		seen["open"] += len(run.Open)
		seen["cut"] += bit(run.Cut)
		for _, answers := range run.Answers {
			for _, a := range answers {
				seen["ok"] += bit(a.Ok)
				seen["err"] += bit(a.Err != api.OK)
				seen["neither"] += bit(a.Err == api.OK && !a.Ok)
				seen["ints"] += bit(len(a.Ints) > 0)
				seen["pairs"] += bit(len(a.Pairs) > 0)
			}
		}
	}
	for _, word := range []string{"open", "cut", "ok", "err", "neither", "ints", "pairs"} {
		if seen[word] < often(300) {
			t.Errorf("the scripts are too plain: %v", seen)
		}
	}
}

// P22.9: a run of MaxSteps steps, most of them of great Ranges, is told whole.
func TestGreatPlay(t *testing.T) {
	text := "parts 1 workers 8 slots 4096 leases 64\n"
	for i := range mostSource {
		text += fmt.Sprintf("source %d %d\n", 4294967295-i, -mostNumber+i)
	}
	for range mostWorkers {
		text += "worker\nsnap 0\nrepeat 63\nrange 0 0 4294967295\nend\n"
	}
	told, err := script.Play(text)
	if want := playOf(t, text); err != nil || told != want || !strings.Contains(told, "\nsteps 20000 cut\n") || len(told) < 200000 {
		t.Errorf("P22.9: %s, %v, want %s", shown(told), err, shown(want))
	}
}

// All goroutines have ended when Play answers.
func TestGoroutinesHaveEnded(t *testing.T) {
	before := runtime.NumGoroutine()
	for range 50 {
		script.Play(head + "worker\nput 1 2\nworker\nput 2 3\nhalt 5\nuntil 12")
	}
	for range 100 {
		if runtime.NumGoroutine() <= before {
			return
		}
		time.Sleep(10 * time.Millisecond)
	}
	t.Errorf("%d goroutines, %d ahead", runtime.NumGoroutine(), before)
}
