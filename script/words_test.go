package script_test

import (
	"strconv"
	"strings"
	"testing"

	"skein/api"
)

// P22.3: the first line in its shapes.
func TestFirstLine(t *testing.T) {
	setup := func(parts, workers, slots, leases, fails int) api.Script {
		return api.Script{Setup: api.Setup{Parts: parts, Workers: workers, Slots: slots, Leases: leases, Fails: fails}}
	}
	wantScript(t, "P22.3", "parts 1 workers 2 slots 3 leases 4", setup(1, 2, 3, 4, 0))
	wantScript(t, "P22.3", "parts 1 workers 2 slots 3 leases 4 fails 5", setup(1, 2, 3, 4, 5))
	wantScript(t, "P22.3", "parts 1 workers 2 slots 3 leases 4 fails 0", setup(1, 2, 3, 4, 0))
	wantScript(t, "P22.3", "\tparts 1 workers 2  slots 3 leases 4 fails -3 # so", setup(1, 2, 3, 4, -3))
	wantScript(t, "P22.3", "parts -1 workers -2 slots -3 leases -4", setup(-1, -2, -3, -4, 0))
	wantScript(t, "P22.3", "parts 0 workers 0 slots 0 leases 0", setup(0, 0, 0, 0, 0))
	wantScript(t, "P22.3", "parts 65 workers 9 slots 4097 leases 65", setup(65, 9, 4097, 65, 0)) // whether there is such a map, Play says
	wantFault(t, "P22.3", "workers 2 parts 1 slots 3 leases 4", 1, badWord)
	wantFault(t, "P22.3", "parts 1 slots 3 workers 2 leases 4", 1, badWord)
	wantFault(t, "P22.3", "parts workers 2 slots 3 leases 4", 1, badNumber)
	wantFault(t, "P22.3", "parts 1 2 slots 3 leases 4", 1, badWord)
	wantFault(t, "P22.3", "parts 1 workers 2 slots 3 fails 5 leases 4", 1, badWord)
	wantFault(t, "P22.3", "parts 1\nworkers 2 slots 3 leases 4", 1, tooEarly)
	wantFault(t, "P22.3", "1 parts 2 workers 3 slots 4 leases", 1, badWord)
}

// P22.3: the first line with words is the Setup's, and no other line is.
func TestFirstLineIsTheSetups(t *testing.T) {
	for _, line := range []string{"source", "source 1 2", "worker", "turns", "turns 0", "halt", "halt 1", "until 1", "repeat 2", "end", "get 1", "names", "many", "go"} {
		wantFault(t, "P22.3", line, 1, badWord)
		wantFault(t, "P22.3", line+"\n"+head, 1, badWord)
		wantFault(t, "P22.3", "\n# x\n"+line+"\n"+head, 3, badWord)
	}
	for _, ahead := range []string{head, head + "\n", worked, worked + "get 1\n", worked + "repeat 2\n", head + "until 1\n"} {
		wantFault(t, "P22.3", ahead+head, strings.Count(ahead, "\n")+1, badWord)
		wantFault(t, "P22.3", ahead+"parts", strings.Count(ahead, "\n")+1, badWord)
	}
}

// P22.3: each call's words, its Kind and its fields; those that aren't named are zero.
func TestCalls(t *testing.T) {
	if len(callNames) != 19 || len(fieldsOf) != 19 {
		t.Fatal("there are 19 calls")
	}
	var all []string
	var calls []api.Call
	for i, name := range callNames {
		for _, numbers := range [][]int{{1, 2, 3}, {-7, 0, mostNumber}, {0, 0, 0}} {
			c := api.Call{Kind: i + 1}
			line := name
			for j, field := range []*int{&c.A, &c.B, &c.C} {
				if j < fieldsOf[i] {
					*field = numbers[j]
					line += " " + strconv.Itoa(numbers[j])
				}
			}
			wantScript(t, "P22.3", worked+line, worksOn([]api.Call{c}))
			all, calls = append(all, line), append(calls, c)
		}
	}
	for _, c := range []struct {
		line string
		want api.Call
	}{
		{"get 1", api.Call{Kind: 1, A: 1}},
		{"put 1 2", api.Call{Kind: 2, A: 1, B: 2}},
		{"drop 1", api.Call{Kind: 3, A: 1}},
		{"swap 1 2 3", api.Call{Kind: 4, A: 1, B: 2, C: 3}},
		{"many", api.Call{Kind: 5}},
		{"many 1 2", api.Call{Kind: 5, Pairs: pairs(1, 2)}},
		{"many 5 6 1 2 5 7 0 0 -1 -2", api.Call{Kind: 5, Pairs: pairs(5, 6, 1, 2, 5, 7, 0, 0, -1, -2)}},
		{"snap 1", api.Call{Kind: 6, A: 1}},
		{"free 1", api.Call{Kind: 7, A: 1}},
		{"peek 1 2", api.Call{Kind: 8, A: 1, B: 2}},
		{"name 1 2", api.Call{Kind: 9, A: 1, B: 2}},
		{"unname 1", api.Call{Kind: 10, A: 1}},
		{"peeknamed 1 2", api.Call{Kind: 11, A: 1, B: 2}},
		{"trim 1", api.Call{Kind: 12, A: 1}},
		{"advance", api.Call{Kind: 13}},
		{"collect", api.Call{Kind: 14}},
		{"names", api.Call{Kind: 15}},
		{"range 1 2 3", api.Call{Kind: 16, A: 1, B: 2, C: 3}},
		{"count 1 2 3", api.Call{Kind: 17, A: 1, B: 2, C: 3}},
		{"page 1 2 3", api.Call{Kind: 18, A: 1, B: 2, C: 3}},
		{"diff 1 2", api.Call{Kind: 19, A: 1, B: 2}},
	} {
		wantScript(t, "P22.3", worked+c.line, worksOn([]api.Call{c.want}))
	}
	wantScript(t, "P22.3", worked+lines(all[:mostCalls-10]...), worksOn(calls[:mostCalls-10]))
}

// P22.3: whose calls they are: the last worker's that stands ahead, whatever stands between.
func TestWorkers(t *testing.T) {
	wantScript(t, "P22.3", head, worksOn())
	wantScript(t, "P22.3", head+"worker", worksOn(nil))
	wantScript(t, "P22.3", head+"worker\nworker\nget 1\nworker", worksOn(nil, []api.Call{{Kind: 1, A: 1}}, nil))
	s := worksOn([]api.Call{{Kind: 1, A: 1}, {Kind: 1, A: 2}}, []api.Call{{Kind: 1, A: 3}})
	s.Setup.Source, s.Case.Turns, s.Case.Halt, s.Case.Until = pairs(1, 2), []int{4}, []int{5}, 6
	wantScript(t, "P22.3", head+"worker\nget 1\nsource 1 2\nturns 4\nhalt 5\nuntil 6\nget 2\nworker\nget 3", s)
}

// P22.3: lists that go on over several lines, at whatever place.
func TestLists(t *testing.T) {
	s := worksOn([]api.Call{{Kind: 15}})
	s.Setup.Source = pairs(1, 2, 3, 4, 1, 2, 5, 6)
	s.Case.Turns = []int{0, 1, -1, 99, 0}
	s.Case.Halt = []int{3, 0, -3}
	wantScript(t, "P22.3", head+lines("source 1 2 3 4", "turns 0 1", "halt", "worker", "source", "halt 3", "names", "turns -1", "source 1 2", "turns", "source 5 6", "turns 99 0", "halt 0 -3"), s)
	wantScript(t, "P22.3", head+"source\nturns\nhalt", worksOn())
	wantFault(t, "P22.3", head+"source 1 2 3", 2, tooEarly)
	wantFault(t, "P22.3", head+"source 1\nsource 2", 2, tooEarly)
	wantFault(t, "P22.3", head+"source 1 x", 2, badNumber)
	wantFault(t, "P22.3", worked+"many 1 2 3", 3, tooEarly)
}

// P22.3: Until; a second one can't stand, of 0 neither, nor whatever follows it.
func TestUntil(t *testing.T) {
	until := func(n int) api.Script { return api.Script{Setup: headSetup(), Case: api.Case{Until: n}} }
	for _, n := range []int{0, 1, 100, mostSteps, mostSteps + 1, -1, mostNumber} {
		wantScript(t, "P22.3", head+"until "+strconv.Itoa(n), until(n))
		for _, again := range []string{"until 0", "until 1", "until " + strconv.Itoa(n), "until", "until x", "until 1 2"} {
			wantFault(t, "P22.3", head+"until "+strconv.Itoa(n)+"\n"+again, 3, badWord)
			wantFault(t, "P22.3", head+"until "+strconv.Itoa(n)+"\nworker\nget 1\n\n"+again, 6, badWord)
		}
	}
	wantFault(t, "P22.3", head+"until\nuntil 1", 2, tooEarly)
}

// P22.3: calls without a worker can't stand, whatever follows them.
func TestCallsWithoutWorkers(t *testing.T) {
	for i, name := range callNames {
		for _, rest := range []string{strings.Repeat(" 1", max(fieldsOf[i], 0)), "", " x", " 1 2 3 4 5"} {
			wantFault(t, "P22.3", head+name+rest, 2, badWord)
			wantFault(t, "P22.3", head+"source 1 2\nturns 0\nhalt 1\nuntil 5\n"+name+rest+"\nworker", 6, badWord)
		}
	}
}

// P22.3, P22.4: how often a repeat may be.
func TestRepeatNumbers(t *testing.T) {
	for _, n := range []int{1, 2, 63, 64} {
		var calls []api.Call
		for range n {
			calls = append(calls, api.Call{Kind: 1, A: 5})
		}
		wantScript(t, "P22.3", worked+"repeat "+strconv.Itoa(n)+"\nget 5\nend", worksOn(calls))
	}
	for _, n := range []string{"0", "-1", "65", "66", "-64", "1000000", "1152921504606846976", "-1152921504606846976", "01", "x"} {
		wantFault(t, "P22.3", worked+"repeat "+n+"\nget 5\nend", 3, badNumber)
		wantFault(t, "P22.3", worked+"repeat "+n+" x", 3, badNumber)
		wantFault(t, "P22.3", worked+"repeat "+n+"\nend", 3, badNumber)
	}
	wantFault(t, "P22.3", worked+"repeat\nget 5\nend", 3, tooEarly)
	wantFault(t, "P22.3", worked+"repeat 2 2\nget 5\nend", 3, badWord)
	wantFault(t, "P22.3", worked+"repeat 2 get 5 end", 3, badWord)
}
