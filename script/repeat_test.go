package script_test

import (
	"slices"
	"strconv"
	"strings"
	"testing"

	"skein/api"
)

// P22.4, P22.10: a repeat of n is its calls written n times.
func TestRepeats(t *testing.T) {
	body := []string{"put 7 70", "names", "many 1 2 3 4", "swap 1 2 3"}
	for n := 1; n <= 16; n++ {
		for size := range len(body) + 1 {
			if n*size+3 > mostCalls {
				continue
			}
			short := lines("get 1", "get 2", "repeat "+strconv.Itoa(n), lines(body[:size]...), "end", "get 3", "worker", "get 4")
			long := lines("get 1", "get 2", lines(slices.Repeat(body[:size], n)...), "get 3", "worker", "get 4")
			wantScript(t, "P22.10", worked+short, wantRead(t, "P22.10", worked+long))
		}
	}
	wantScript(t, "P22.4", worked+lines("get 1", "repeat 2", "get 2", "get 3", "end", "repeat 3", "names", "end", "repeat 1", "get 4", "end", "get 5"), worksOn([]api.Call{
		{Kind: 1, A: 1}, {Kind: 1, A: 2}, {Kind: 1, A: 3}, {Kind: 1, A: 2}, {Kind: 1, A: 3}, {Kind: 15}, {Kind: 15}, {Kind: 15}, {Kind: 1, A: 4}, {Kind: 1, A: 5},
	}))
	wantScript(t, "P22.4", worked+lines("get 1", "worker", "repeat 2", "get 2", "end", "worker"), worksOn([]api.Call{{Kind: 1, A: 1}}, []api.Call{{Kind: 1, A: 2}, {Kind: 1, A: 2}}, nil))
}

// P22.4: an empty repeat, and one with nothing but lines without words.
func TestEmptyRepeats(t *testing.T) {
	wantScript(t, "P22.4", worked+"repeat 64\nend", worksOn(nil))
	wantScript(t, "P22.4", worked+"repeat 64\n\n # get 1\n\t\nend", worksOn(nil))
	wantScript(t, "P22.4", worked+strings.Repeat("repeat 64\nend\n", 1000)+"get 1", worksOn([]api.Call{{Kind: 1, A: 1}}))
	wantScript(t, "P22.4", worked+strings.Repeat("names\n", mostCalls)+"repeat 64\nend", worksOn(slices.Repeat([]api.Call{{Kind: 15}}, mostCalls)))
}

// P22.4: of the lines between a repeat and its end calls alone can stand; any other one's first word can't, whatever follows it.
func TestOtherLinesInRepeats(t *testing.T) {
	for _, word := range []string{"source", "worker", "turns", "halt", "until", "repeat", "parts", "go", "get5", "ends", "1", "fails"} {
		for _, rest := range []string{"", " 1", " 1 2", " x", " 0", " 65"} {
			wantFault(t, "P22.4", worked+"repeat 2\n"+word+rest+"\nend", 4, badWord)
			wantFault(t, "P22.4", worked+"get 1\nrepeat 2\nget 2\n\n"+word+rest+"\nend", 7, badWord)
		}
	}
	wantFault(t, "P22.4", worked+"repeat 2\nget 1\nrepeat 2\nget 2\nend\nend", 5, badWord)
	wantFault(t, "P22.4", worked+"until 1\nrepeat 2\nuntil 1\nend", 5, badWord)
	for i, name := range callNames {
		line := name + strings.Repeat(" 1", max(fieldsOf[i], 0))
		want := wantRead(t, "P22.4", worked+line+"\n"+line)
		wantScript(t, "P22.4", worked+"repeat 2\n"+line+"\nend", want)
	}
}

// P22.4: an end without a repeat can't stand, whatever follows it.
func TestEndsAlone(t *testing.T) {
	for _, ahead := range []string{head, worked, worked + "get 1\n", worked + "repeat 2\nget 1\nend\n", worked + "repeat 2\nend\n", worked + "repeat 2\nend\nworker\n"} {
		for _, line := range []string{"end", "end x", "end 1"} {
			wantFault(t, "P22.4", ahead+line, strings.Count(ahead, "\n")+1, badWord)
		}
	}
	wantFault(t, "P22.4", "end", 1, badWord)
	wantFault(t, "P22.4", worked+"repeat 2\nget 1\nend 1", 5, badWord)
	wantFault(t, "P22.4", worked+"repeat 2\nget 1\nend end", 5, badWord)
}

// P22.4: a repeat without a worker ahead can't stand, whatever follows it.
func TestRepeatsWithoutWorkers(t *testing.T) {
	for _, line := range []string{"repeat", "repeat 2", "repeat 0", "repeat 65", "repeat x", "repeat 2 2"} {
		wantFault(t, "P22.4", head+line, 2, badWord)
		wantFault(t, "P22.4", head+"source 1 2\n"+line+"\nend\nworker", 3, badWord)
	}
}

// P22.4: a repeat without an end: the fault is at the text's last line, whatever that is.
func TestRepeatsWithoutEnds(t *testing.T) {
	for _, c := range []struct {
		behind string
		line   int
	}{
		{"repeat 2", 3}, {"repeat 2\n", 4}, {"repeat 2\n\n\n", 6}, {"repeat 2 # end", 3}, {"repeat 2\n#end", 4},
		{"repeat 2\nget 1", 4}, {"repeat 2\nget 1\n", 5}, {"repeat 2\nget 1\nget 2\n# x\n\t", 7},
		{"repeat 2\nget 1\nend\nrepeat 2\nget 1", 7}, {"repeat 1\nmany", 4},
	} {
		wantFault(t, "P22.4", worked+c.behind, c.line, tooEarly)
	}
	// What the lines themselves have for faults comes first, on the last line, too.
	wantFault(t, "P22.4", worked+"repeat 2\nget x", 4, badNumber)
	wantFault(t, "P22.4", worked+"repeat 2\nget x\n", 4, badNumber)
	wantFault(t, "P22.4", worked+"repeat 2\nget 1 1", 4, badWord)
	wantFault(t, "P22.4", worked+"repeat 2\nworker", 4, badWord)
	wantFault(t, "P22.4", worked+"repeat 65", 3, badNumber)
	wantFault(t, "P22.4", worked+strings.Repeat("names\n", mostCalls)+"repeat 1\nnames", 4+mostCalls, tooMany)
}
