package script_test

import (
	"slices"
	"strconv"
	"strings"
	"testing"

	"skein/api"
	"skein/script"
)

// P22.7: the text of scripts, byte by byte.
func TestPrint(t *testing.T) {
	wantText(t, "P22.7", api.Script{}, "parts 0 workers 0 slots 0 leases 0\n")
	wantText(t, "P22.7", worksOn(), head)
	wantText(t, "P22.7", worksOn(nil), head+"worker\n")
	wantText(t, "P22.7", worksOn(nil, []api.Call{{Kind: 15}}, nil), head+"worker\nworker\nnames\nworker\n")
	s := api.Script{
		Setup: api.Setup{Parts: 1, Workers: 2, Slots: 3, Leases: 4, Fails: 5, Source: pairs(5, 50, -6, 0, 5, 51)},
		Case: api.Case{
			Work:  [][]api.Call{{{Kind: 1, A: 5}, {Kind: 1, A: 5}, {Kind: 5, Pairs: pairs(1, 2, 3, 4)}}, {{Kind: 5}, {Kind: 16, B: 1, C: -1}}},
			Turns: []int{0, 1, 0}, Halt: []int{0, 7}, Until: 100,
		},
	}
	wantText(t, "P22.7", s, lines("parts 1 workers 2 slots 3 leases 4 fails 5", "source 5 50", "source -6 0", "source 5 51", "worker", "get 5", "get 5", "many 1 2 3 4", "worker", "many", "range 0 1 -1", "turns 0 1 0", "halt 0 7", "until 100", ""))
	s.Setup.Fails, s.Case.Halt, s.Case.Until = -5, []int{0}, -1
	wantText(t, "P22.7", s, lines("parts 1 workers 2 slots 3 leases 4 fails -5", "source 5 50", "source -6 0", "source 5 51", "worker", "get 5", "get 5", "many 1 2 3 4", "worker", "many", "range 0 1 -1", "turns 0 1 0", "halt 0", "until -1", ""))
	s.Setup.Fails, s.Setup.Source, s.Case = 0, nil, api.Case{Turns: []int{0}}
	wantText(t, "P22.7", s, "parts 1 workers 2 slots 3 leases 4\nturns 0\n")
	s.Case = api.Case{Halt: []int{0}}
	wantText(t, "P22.7", s, "parts 1 workers 2 slots 3 leases 4\nhalt 0\n")
}

// P22.7: the text of each call.
func TestPrintCalls(t *testing.T) {
	for i, name := range callNames {
		for _, numbers := range [][]int{{1, 2, 3}, {0, 0, 0}, {-7, mostNumber, -mostNumber}} {
			c := api.Call{Kind: i + 1}
			line := name
			for j, field := range []*int{&c.A, &c.B, &c.C} {
				if j < fieldsOf[i] {
					*field = numbers[j]
					line += " " + strconv.Itoa(numbers[j])
				}
			}
			if fieldsOf[i] < 0 {
				c.Pairs = pairs(numbers[0], numbers[1], numbers[2], 5)
				line += " " + strings.Join(pairWords(c.Pairs), " ")
			}
			wantText(t, "P22.7", worksOn([]api.Call{c}), worked+line+"\n")
		}
	}
}

// outOfBounds: what no number of a text is.
var outOfBounds = []int{mostNumber + 1, mostNumber + 2, 1 << 61, highest, -mostNumber - 1, -mostNumber - 2, -1 << 61, lowest + 1, lowest}

// callsWithoutText: calls that have none.
func callsWithoutText() []api.Call {
	var list []api.Call
	for _, kind := range []int{0, -1, -19, 20, 21, 100, 1<<32 + 1, 1<<62 + 1, lowest, lowest + 1, highest} {
		list = append(list, api.Call{Kind: kind}, api.Call{Kind: kind, A: 1}, api.Call{Kind: kind, A: 1, B: 2, C: 3, Pairs: pairs(1, 2)})
	}
	for i, n := range fieldsOf {
		for j := range 3 {
			bads := outOfBounds
			if j >= n { // it isn't named
				bads = []int{1, -1, mostNumber, lowest, highest}
			}
			for _, bad := range bads {
				c := api.Call{Kind: i + 1}
				*[]*int{&c.A, &c.B, &c.C}[j] = bad
				list = append(list, c)
			}
		}
		if n >= 0 {
			list = append(list, api.Call{Kind: i + 1, Pairs: pairs(0, 0)}, api.Call{Kind: i + 1, Pairs: pairs(1, 2, 3, 4)})
		}
	}
	for _, bad := range outOfBounds {
		list = append(list, api.Call{Kind: 5, Pairs: pairs(bad, 1)}, api.Call{Kind: 5, Pairs: pairs(1, bad)}, api.Call{Kind: 5, Pairs: pairs(1, 2, 3, bad)}, api.Call{Kind: 5, Pairs: pairs(1, 2, bad, 3, 4, 5)})
	}
	return list
}

// P22.8: the first call that has no text is told by its number, counted through all workers.
func TestPrintCallsWithoutText(t *testing.T) {
	fine := api.Call{Kind: 1, A: 5}
	for _, bad := range callsWithoutText() {
		wantNoText(t, "P22.8", worksOn([]api.Call{bad}), 1)
		wantNoText(t, "P22.8", worksOn(nil, []api.Call{fine, fine}, nil, []api.Call{fine, bad, fine}, []api.Call{bad}), 4)
	}
	bad := api.Call{}
	wantNoText(t, "P22.8", worksOn([]api.Call{fine}, []api.Call{fine, {Kind: 20}}, []api.Call{{}}), 3)
	wantNoText(t, "P22.8", worksOn([]api.Call{bad, bad}), 1)
	wantNoText(t, "P22.8", worksOn(slices.Repeat([]api.Call{fine}, mostCalls), slices.Repeat([]api.Call{fine}, mostCalls), []api.Call{bad}), 2*mostCalls+1)
	// It is told ahead of all else that is wrong.
	much := api.Script{
		Setup: api.Setup{Parts: highest, Source: slices.Repeat(pairs(1, 2), mostSource+1)},
		Case:  api.Case{Work: slices.Repeat([][]api.Call{slices.Repeat([]api.Call{fine}, mostCalls+1)}, mostWorkers+1), Turns: make([]int, 100000), Until: lowest},
	}
	wantNoText(t, "P22.8", much, 0)
	much.Case.Work = append(slices.Clone(much.Case.Work), []api.Call{fine, bad})
	wantNoText(t, "P22.8", much, (mostWorkers+1)*(mostCalls+1)+2)
}

// P22.8: scripts whose calls have a text, but they haven't: numbers that are none.
func TestPrintNumbersOutOfBounds(t *testing.T) {
	for _, bad := range outOfBounds {
		for _, put := range []func(s *api.Script, n int){
			func(s *api.Script, n int) { s.Setup.Parts = n },
			func(s *api.Script, n int) { s.Setup.Workers = n },
			func(s *api.Script, n int) { s.Setup.Slots = n },
			func(s *api.Script, n int) { s.Setup.Leases = n },
			func(s *api.Script, n int) { s.Setup.Fails = n },
			func(s *api.Script, n int) { s.Setup.Source = pairs(n, 1) },
			func(s *api.Script, n int) { s.Setup.Source = pairs(1, 2, 3, n) },
			func(s *api.Script, n int) { s.Case.Turns = []int{0, n} },
			func(s *api.Script, n int) { s.Case.Halt = []int{0, n, 1} },
			func(s *api.Script, n int) { s.Case.Until = n },
		} {
			for _, work := range [][][]api.Call{nil, {{{Kind: 1, A: 5}}}} {
				s := worksOn(work...)
				put(&s, bad)
				wantNoText(t, "P22.8", s, 0)
				for _, fine := range []int{mostNumber, -mostNumber, mostNumber - 1, 1, -1} {
					put(&s, fine)
					if text, err := script.Print(s); err != nil {
						t.Errorf("P22.8: Print(%+v): %v", s, err)
					} else {
						wantScript(t, "P22.10", text, s)
					}
				}
			}
		}
	}
}

// P22.8: parts that are at their limits, and above them.
func TestPrintLimits(t *testing.T) {
	call := api.Call{Kind: 15}
	wantText(t, "P22.8", worksOn(make([][]api.Call, mostWorkers)...), head+strings.Repeat("worker\n", mostWorkers))
	wantNoText(t, "P22.8", worksOn(make([][]api.Call, mostWorkers+1)...), 0)
	wantNoText(t, "P22.8", worksOn(make([][]api.Call, 1000000)...), 0)
	full := slices.Repeat([]api.Call{call}, mostCalls)
	wantText(t, "P22.8", worksOn(full), worked+strings.Repeat("names\n", mostCalls))
	wantText(t, "P22.8", worksOn(slices.Repeat([][]api.Call{full}, mostWorkers)...), head+strings.Repeat("worker\n"+strings.Repeat("names\n", mostCalls), mostWorkers))
	wantNoText(t, "P22.8", worksOn(append(slices.Clone(full), call)), 0)
	wantNoText(t, "P22.8", worksOn(nil, full, append(slices.Clone(full), call)), 0)
	s := worksOn()
	s.Setup.Source = slices.Repeat(pairs(1, 2), mostSource)
	wantText(t, "P22.8", s, head+strings.Repeat("source 1 2\n", mostSource))
	s.Setup.Source = append(s.Setup.Source, api.Pair{})
	wantNoText(t, "P22.8", s, 0)
	for _, put := range []func(s *api.Script, l []int) string{
		func(s *api.Script, l []int) string { s.Case.Turns = l; return "turns" },
		func(s *api.Script, l []int) string { s.Case.Halt = l; return "halt" },
	} {
		s := worksOn()
		word := put(&s, make([]int, mostTurns))
		wantText(t, "P22.8", s, head+word+strings.Repeat(" 0", mostTurns)+"\n")
		put(&s, make([]int, mostTurns+1))
		wantNoText(t, "P22.8", s, 0)
		put(&s, make([]int, 5000000))
		wantNoText(t, "P22.8", s, 0)
	}
}

// P22.8: a text of just MaxText bytes, and one byte more.
func TestPrintLongTexts(t *testing.T) {
	for _, put := range []struct {
		list    func(s *api.Script, l []int)
		text    func(list string) string
		hasCall bool
	}{
		{func(s *api.Script, l []int) { s.Case.Turns = l }, func(l string) string { return head + "turns" + l + "\n" }, false},
		{func(s *api.Script, l []int) { s.Case.Halt = l }, func(l string) string { return head + "halt" + l + "\n" }, false},
		{func(s *api.Script, l []int) {
			s.Case.Work = [][]api.Call{{{Kind: 5, Pairs: pairs(l...)}}}
		}, func(l string) string { return worked + "many" + l + "\n" }, true},
	} {
		// Numbers of many digits, then some of one digit more, up to the wanted length.
		n := 8000
		short := n*7 + len(put.text("")) // each 999999 with a blank
		list := slices.Repeat([]int{999999}, n)
		for i := range mostText - short {
			list[i%n] = list[i%n]*10 + 1
		}
		s := worksOn()
		put.list(&s, list)
		want := put.text(" " + strings.Join(numberWords(list), " "))
		if len(want) != mostText {
			t.Fatalf("%d bytes", len(want))
		}
		wantText(t, "P22.8", s, want)
		list[n-1] = list[n-1]*10 + 1
		put.list(&s, list)
		wantNoText(t, "P22.8", s, 0)
		list[n-1] /= 10
		list[n-2] *= -1
		put.list(&s, list)
		wantNoText(t, "P22.8", s, 0)
		if put.hasCall { // behind the call that is too long there is one without a text
			s.Case.Work = append(s.Case.Work, []api.Call{{}})
			wantNoText(t, "P22.8", s, 2)
			wantNoText(t, "P22.8", worksOn([]api.Call{{Kind: 5, Pairs: make([]api.Pair, 2000000)}}), 0)
		}
	}
}

// Rule 2: nil lists and empty ones aren't told apart.
func TestPrintEmptyLists(t *testing.T) {
	empty := worksOn([]api.Call{{Kind: 1, A: 5, Pairs: []api.Pair{}}, {Kind: 5, Pairs: []api.Pair{}}}, []api.Call{})
	empty.Setup.Source, empty.Case.Turns, empty.Case.Halt = []api.Pair{}, []int{}, []int{}
	wantText(t, "rule 2", empty, worked+"get 5\nmany\nworker\n")
	wantText(t, "rule 2", plainScript(empty), worked+"get 5\nmany\nworker\n")
	none := worksOn()
	none.Case.Work = [][]api.Call{}
	wantText(t, "rule 2", none, head)
}
