package script_test

import (
	"slices"
	"strconv"
	"strings"
	"testing"

	"skein/api"
)

// P22.5: a text that is too long: at line 1, ahead of all else.
func TestLongTexts(t *testing.T) {
	for _, text := range []string{head, worked + "get 1\n", worked + "repeat 2\nget 1\nend\n"} {
		want := wantRead(t, "P22.5", text)
		for _, c := range []string{"#", " ", "\n", "\t"} {
			wantScript(t, "P22.5", text+strings.Repeat(c, mostText-len(text)), want)
			wantScript(t, "P22.5", strings.Repeat("\n", mostText-len(text))+text, want)
			wantFault(t, "P22.5", text+strings.Repeat(c, mostText-len(text)+1), 1, tooLong)
			wantFault(t, "P22.5", strings.Repeat("\n", mostText-len(text)+1)+text, 1, tooLong)
		}
	}
	for _, text := range []string{"", "go", "get 5\n", "parts x\n", head + "go\n", worked + "get\n", worked + "repeat 2\n", head + strings.Repeat("worker\n", 9)} {
		_, line, number := modelParse(text + strings.Repeat("#", mostText-len(text)))
		wantFault(t, "P22.5", text+strings.Repeat("#", mostText-len(text)), line, number)
		wantFault(t, "P22.5", text+strings.Repeat("#", mostText-len(text)+1), 1, tooLong)
		wantFault(t, "P22.5", text+strings.Repeat("\n", mostText-len(text)+1), 1, tooLong)
		wantFault(t, "P22.5", text+strings.Repeat("x", mostText+1), 1, tooLong)
	}
	wantFault(t, "P22.5", strings.Repeat("x", 10*mostText), 1, tooLong)
	// Bytes are counted, not letters.
	wantScript(t, "P22.5", head+"#"+strings.Repeat("\u00e4", (mostText-len(head)-1)/2), worksOn())
	wantFault(t, "P22.5", head+"#"+strings.Repeat("\u00e4", (mostText-len(head)-1)/2+1), 1, tooLong)
}

// P22.5: so many workers, and one more; behind the faults of the line's own words.
func TestManyWorkers(t *testing.T) {
	for n := range mostWorkers + 1 {
		wantScript(t, "P22.5", head+strings.Repeat("worker\n", n), worksOn(make([][]api.Call, n)...))
		wantScript(t, "P22.5", head+strings.Repeat("worker\nnames\n", n), worksOn(slices.Repeat([][]api.Call{{{Kind: 15}}}, n)...))
	}
	full := head + strings.Repeat("worker\n", mostWorkers)
	wantFault(t, "P22.5", full+"worker", 10, tooMany)
	wantFault(t, "P22.5", full+"worker\nworker\ngo", 10, tooMany)
	wantFault(t, "P22.5", full+"worker 1", 10, badWord)
	wantFault(t, "P22.5", full+"worker x\nworker", 10, badWord)
	wantFault(t, "P22.5", full+"\n#\nworker # too many", 12, tooMany)
}

// P22.5: so many calls of a worker, and one more; each worker has its own.
func TestManyCalls(t *testing.T) {
	full := worked + strings.Repeat("names\n", mostCalls)
	list := slices.Repeat([]api.Call{{Kind: 15}}, mostCalls)
	wantScript(t, "P22.5", full, worksOn(list))
	wantScript(t, "P22.5", full+strings.Repeat("worker\n"+strings.Repeat("names\n", mostCalls), mostWorkers-1), worksOn(slices.Repeat([][]api.Call{list}, mostWorkers)...))
	wantScript(t, "P22.5", full+"worker\nnames", worksOn(list, list[:1]))
	for i, name := range callNames {
		line := name + strings.Repeat(" 1", max(fieldsOf[i], 0))
		wantFault(t, "P22.5", full+line, 67, tooMany)
		wantFault(t, "P22.5", full+"\n\n"+line+"\ngo", 69, tooMany)
		wantFault(t, "P22.5", full+"worker\n"+strings.Repeat(line+"\n", mostCalls)+line, 67+1+mostCalls, tooMany)
		if fieldsOf[i] < 0 {
			wantFault(t, "P22.5", full+"many 1", 67, tooEarly)
			wantFault(t, "P22.5", full+"many 1 x", 67, badNumber)
			wantFault(t, "P22.5", full+"many 1 2", 67, tooMany)
			continue
		}
		wantFault(t, "P22.5", full+line+" 1", 67, badWord)
		if fieldsOf[i] > 0 {
			wantFault(t, "P22.5", full+name, 67, tooEarly)
			wantFault(t, "P22.5", full+name+" x", 67, badNumber)
		}
	}
}

// P22.5: calls in a repeat: those ahead of it, and its own so far, once.
func TestManyCallsInARepeat(t *testing.T) {
	for _, ahead := range []int{0, 1, 30, 63, 64} {
		for _, times := range []int{1, 2, 64} {
			room := mostCalls - ahead
			text := worked + strings.Repeat("get 1\n", ahead) + "repeat " + strconv.Itoa(times) + "\n" + strings.Repeat("names\n", room)
			at := 4 + mostCalls // behind the repeat and all these calls
			for _, more := range []string{"names", "get 1", "many", "many 1 2", "names\nend", "names\ngo"} {
				wantFault(t, "P22.5", text+more, at, tooMany)
			}
			wantFault(t, "P22.5", text+"get", at, tooEarly)
			wantFault(t, "P22.5", text+"get x", at, badNumber)
			wantFault(t, "P22.5", text+"names 1", at, badWord)
			wantFault(t, "P22.5", text+"worker", at, badWord)
			wantFault(t, "P22.5", text, at, tooEarly)
			if times == 1 || room == 0 {
				wantRead(t, "P22.5", text+"end")
			} else {
				wantFault(t, "P22.5", text+"end", at, tooMany)
				wantFault(t, "P22.5", text+"end x", at, badWord)
				wantFault(t, "P22.5", text+"\nend\nend\ngo", at+1, tooMany)
			}
		}
	}
}

// P22.5: an end by which its worker has just so many calls, and one more.
func TestManyCallsByAnEnd(t *testing.T) {
	for ahead := range mostCalls + 1 {
		for size := 1; size <= 4; size++ {
			times := (mostCalls - ahead) / size
			text := func(ahead, times int) string {
				return worked + strings.Repeat("get 1\n", ahead) + "repeat " + strconv.Itoa(times) + "\n" + strings.Repeat("names\n", size) + "end"
			}
			if times > 0 {
				want := append(slices.Repeat([]api.Call{{Kind: 1, A: 1}}, ahead), slices.Repeat([]api.Call{{Kind: 15}}, times*size)...)
				wantScript(t, "P22.5", text(ahead, times), worksOn(want))
			}
			if times < mostCalls && ahead+size <= mostCalls {
				wantFault(t, "P22.5", text(ahead, times+1), 4+ahead+size, tooMany)
				wantFault(t, "P22.5", text(ahead, times+1)+" x", 4+ahead+size, badWord)
				wantFault(t, "P22.5", text(ahead, mostCalls), 4+ahead+size, tooMany)
			}
		}
	}
	wantFault(t, "P22.5", worked+"get 1\nrepeat 64\nget 1\nend", 6, tooMany)
	wantFault(t, "P22.5", worked+"repeat 33\nget 1\nget 1\nend", 6, tooMany)
	wantFault(t, "P22.5", worked+"repeat 32\nget 1\nget 1\nend\nrepeat 1\nget 1\nend", 8, tooMany)
	wantRead(t, "P22.5", worked+"repeat 32\nget 1\nget 1\nend\nworker\nrepeat 64\nget 1\nend")
}

// listed: a line with so many numbers.
func listed(word string, n int) string { return word + strings.Repeat(" 1", n) + "\n" }

// P22.5: so many pairs of the source, and one more.
func TestManyPairs(t *testing.T) {
	all := slices.Repeat(pairs(1, 1), mostSource)
	want := worksOn()
	want.Setup.Source = all
	for _, text := range []string{
		listed("source", 2*mostSource),
		strings.Repeat("source 1 1\n", mostSource),
		listed("source", mostSource) + "source\n" + listed("source", mostSource),
		listed("source", 2*mostSource-2) + "source 1 1\nsource\n",
	} {
		at := strings.Count(text, "\n") + 2
		wantScript(t, "P22.5", head+text, want)
		wantScript(t, "P22.5", head+text+"source", want)
		wantFault(t, "P22.5", head+text+"source 2 2", at, tooMany)
		wantFault(t, "P22.5", head+text+"source 2 2 3 3\ngo", at, tooMany)
		wantFault(t, "P22.5", head+text+"source 2", at, tooEarly)
		wantFault(t, "P22.5", head+text+"source 2 x", at, badNumber)
		wantFault(t, "P22.5", head+text+"source 2 2 3", at, tooEarly)
		wantFault(t, "P22.5", head+text+"source 2 2 3 3 -0 4", at, badNumber)
	}
	wantFault(t, "P22.5", head+listed("source", 2*mostSource+2), 2, tooMany)
	wantFault(t, "P22.5", head+listed("source", 2*mostSource+1), 2, tooEarly)
	wantFault(t, "P22.5", head+listed("source", 30000), 2, tooMany)
	// Pairs of a Many have no such limit.
	wantScript(t, "P22.5", worked+listed("many", 4*mostSource), worksOn([]api.Call{{Kind: 5, Pairs: slices.Repeat(pairs(1, 1), 2*mostSource)}}))
	wantRead(t, "P22.5", worked+listed("many", 30000))
}

// P22.5: so many turns and halts, and one more: each are counted alone.
func TestManyTurns(t *testing.T) {
	for _, word := range []string{"turns", "halt"} {
		want := worksOn()
		if word == "turns" {
			want.Case.Turns = slices.Repeat([]int{1}, mostTurns)
		} else {
			want.Case.Halt = slices.Repeat([]int{1}, mostTurns)
		}
		for _, text := range []string{
			listed(word, mostTurns),
			listed(word, mostTurns-1) + listed(word, 1) + listed(word, 0),
			strings.Repeat(listed(word, 1000), mostTurns/1000),
		} {
			at := strings.Count(text, "\n") + 2
			wantScript(t, "P22.5", head+text, want)
			wantScript(t, "P22.5", head+text+word, want)
			wantFault(t, "P22.5", head+text+word+" 1", at, tooMany)
			wantFault(t, "P22.5", head+text+word+" 1 2 3\ngo", at, tooMany)
			wantFault(t, "P22.5", head+text+word+" x", at, badNumber)
			wantFault(t, "P22.5", head+text+word+" 1 2 x", at, badNumber)
		}
		wantFault(t, "P22.5", head+listed(word, mostTurns+1), 2, tooMany)
		wantFault(t, "P22.5", head+word+strings.Repeat(" 1", mostTurns+1)+" x", 2, badNumber)
	}
	both := worksOn()
	both.Case.Turns, both.Case.Halt = slices.Repeat([]int{1}, 15000), slices.Repeat([]int{1}, 15000)
	wantScript(t, "P22.5", head+listed("turns", 15000)+listed("halt", 15000), both)
	wantScript(t, "P22.5", head+listed("halt", 15000)+listed("turns", 15000), both)
}
