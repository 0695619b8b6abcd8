package script_test

import (
	"slices"
	"strings"
	"testing"

	"skein/api"
)

// P22.1, P22.3: texts in which no line has words: the text ends too early, at its last line.
func TestTextsWithoutWords(t *testing.T) {
	for _, c := range []struct {
		text string
		line int
	}{
		{"", 1}, {"\n", 2}, {"\n\n", 3}, {"\n\n\n\n\n\n\n", 8},
		{" ", 1}, {"\t", 1}, {" \t \t", 1}, {" \n\t\n", 3}, {" \n\t\n ", 3},
		{"#", 1}, {"# x", 1}, {"#\n", 2}, {"#\n#\n# parts 1 workers 1 slots 1 leases 1", 3}, {" \t# x\n\n\t #y\n", 4}, {"\n\n# x", 3},
		{"#parts 1 workers 1 slots 1 leases 1\n", 2}, {strings.Repeat("\n", mostText), mostText + 1}, {strings.Repeat(" ", mostText), 1}, {strings.Repeat("#", mostText), 1},
	} {
		wantFault(t, "P22.1", c.text, c.line, tooEarly)
	}
}

// P22.1: blanks, tabs, comments, lines without words, a line feed at the end or none.
func TestLayout(t *testing.T) {
	want := api.Script{
		Setup: api.Setup{Parts: 1, Workers: 2, Slots: 40, Leases: 2, Source: pairs(5, 50, -6, 60)},
		Case:  api.Case{Work: [][]api.Call{{{Kind: 1, A: 5}, {Kind: 5, Pairs: pairs(1, 2)}}, {{Kind: 15}}}, Turns: []int{0, 1}, Halt: []int{3}, Until: 9},
	}
	list := []string{"parts 1 workers 2 slots 40 leases 2", "source 5 50 -6 60", "worker", "get 5", "many 1 2", "worker", "names", "turns 0 1", "halt 3", "until 9"}
	plain := strings.Join(list, "\n")
	for _, text := range []string{
		plain,
		plain + "\n",
		plain + "\n\n\n",
		"\n\n" + plain,
		"# a script\n \t\n" + plain + "\n# its end",
		strings.ReplaceAll(plain, " ", "\t"),
		strings.ReplaceAll(plain, " ", " \t  "),
		strings.ReplaceAll(plain, "\n", " \n\t"),
		strings.ReplaceAll(plain, "\n", "\t\n  "),
		strings.ReplaceAll(plain, "\n", "#\n"),
		strings.ReplaceAll(plain, "\n", "# get 5\n"),
		strings.ReplaceAll(plain, "\n", "#x#y # z \r\x00\xff\n"),
		strings.ReplaceAll(plain, "\n", " # x\n\n#\n \n\t# y\n"),
		plain + "#",
		plain + " # x",
	} {
		wantScript(t, "P22.1", text, want)
	}
}

// P22.1: what begins with # is left out wherever that stands: inside a word, too, and directly behind one.
func TestComments(t *testing.T) {
	wantScript(t, "P22.1", worked+"get 5#6", worksOn([]api.Call{{Kind: 1, A: 5}}))
	wantScript(t, "P22.1", worked+"get 5 #6\n#get 7", worksOn([]api.Call{{Kind: 1, A: 5}}))
	wantScript(t, "P22.1", worked+"names#", worksOn([]api.Call{{Kind: 15}}))
	wantScript(t, "P22.1", worked+"names#peek", worksOn([]api.Call{{Kind: 15}}))
	wantScript(t, "P22.1", worked+"many 1 2#3 4", worksOn([]api.Call{{Kind: 5, Pairs: pairs(1, 2)}}))
	wantScript(t, "P22.1", worked+"get 1#\nget 2", worksOn([]api.Call{{Kind: 1, A: 1}, {Kind: 1, A: 2}})) // up to the line's end alone
	wantFault(t, "P22.1", worked+"get #5", 3, tooEarly)
	wantFault(t, "P22.1", worked+"get#5", 3, tooEarly)
	wantFault(t, "P22.1", worked+"ge#t 5", 3, badWord)
	wantFault(t, "P22.1", worked+"many 1#2", 3, tooEarly)
	wantFault(t, "P22.1", worked+"get -#1", 3, badNumber)
	wantFault(t, "P22.1", "par#ts 1 workers 2 slots 40 leases 2", 1, badWord)
	wantFault(t, "P22.1", "parts 1 workers 2 slots 40 leases#2", 1, tooEarly)
}

// P22.1: blanks and tabs alone stand between words: any other byte is of a word.
func TestBytes(t *testing.T) {
	for b := range 256 {
		c := string([]byte{byte(b)})
		switch c {
		case " ", "\t":
			wantScript(t, "P22.1", worked+"get"+c+"5"+c, worksOn([]api.Call{{Kind: 1, A: 5}}))
			wantScript(t, "P22.1", worked+c+"get 5", worksOn([]api.Call{{Kind: 1, A: 5}}))
			continue
		case "\n", "#":
			wantFault(t, "P22.1", worked+"get"+c+"5", 3, tooEarly)
			continue
		}
		wantFault(t, "P22.1", worked+"get"+c+"5", 3, badWord)
		wantFault(t, "P22.1", worked+"get"+c+" 5", 3, badWord)
		wantFault(t, "P22.1", worked+c+"get 5", 3, badWord)
		wantFault(t, "P22.1", worked+c, 3, badWord)
		wantFault(t, "P22.1", c+worked, 1, badWord)
		if c < "0" || c > "9" {
			wantFault(t, "P22.1", worked+"get 5"+c, 3, badNumber)
			wantFault(t, "P22.1", worked+"get 5"+c+"5", 3, badNumber)
		}
	}
	for _, space := range []string{"\u00a0", "\u2003", "\u3000", "\u0085", "\u2028", "\ufeff", "\r", "\v", "\f"} {
		wantFault(t, "P22.1", worked+"get"+space+"5", 3, badWord)
		wantFault(t, "P22.1", worked+"get 5"+space, 3, badNumber)
		wantFault(t, "P22.1", worked+"get 5 "+space, 3, badWord)
		wantFault(t, "P22.1", space+"\n"+head, 1, badWord)
	}
	wantFault(t, "P22.1", strings.ReplaceAll(worked, "\n", "\r\n"), 1, badNumber)
}

// sample: a line that may stand behind its text, with what is wanted at each of its words, the first one left out: w a certain word, n a number, r how often.
type sample struct {
	ahead, line, wanted string
	many                string // what may stand behind that, any number of times: n, nn
}

func (s sample) words() []string { return strings.Split(s.line, " ") }

// at: the line's number.
func (s sample) at() int { return strings.Count(s.ahead, "\n") + 1 }

// samples: of every kind of line one; of those that may be longer two.
func samples() []sample {
	inRepeat := worked + "repeat 2\n"
	list := []sample{
		{"", "parts 1 workers 2 slots 40 leases 2 fails 1", "nwnwnwnwn", ""},
		{"\n# x\n", "parts 1 workers 2 slots 40 leases 2 fails 1", "nwnwnwnwn", ""},
		{head, "source", "", "nn"},
		{head, "source 1 2 3 4", "nnnn", "nn"},
		{head, "worker", "", ""},
		{worked, "worker", "", ""},
		{head, "turns", "", "n"},
		{worked, "turns 1 2 3", "nnn", "n"},
		{head, "halt", "", "n"},
		{head, "halt 1 2 3", "nnn", "n"},
		{head, "until 7", "n", ""},
		{worked, "repeat 7", "r", ""},
		{inRepeat, "end", "", ""},
		{inRepeat + "get 1\n", "end", "", ""},
	}
	for i, name := range callNames {
		for _, ahead := range []string{worked, inRepeat, inRepeat + "get 1\nend\n"} {
			if n := fieldsOf[i]; n >= 0 {
				list = append(list, sample{ahead, name + strings.Repeat(" 9", n), strings.Repeat("n", n), ""})
			} else {
				list = append(list, sample{ahead, name, "", "nn"}, sample{ahead, name + " 1 2", "nn", "nn"})
			}
		}
	}
	return list
}

// closed: a text without a fault behind a sample's line.
func (s sample) closed(line string) string {
	text := s.ahead + line
	if strings.Contains(s.ahead+s.line, "repeat") && !strings.Contains(s.ahead+s.line, "end") {
		text += "\nend"
	}
	return text
}

// The samples have no fault.
func TestSamples(t *testing.T) {
	for _, s := range samples() {
		wantRead(t, "P22.3", s.closed(s.line))
	}
}

// P22.1: of every kind of line a wrong word at each of its words.
func TestWrongWords(t *testing.T) {
	for _, s := range samples() {
		for _, bad := range badWords {
			words := s.words()
			words[0] = bad
			wantFault(t, "P22.1", s.closed(strings.Join(words, " ")), s.at(), badWord)
		}
		for i, kind := range s.wanted {
			for _, bad := range append(slices.Clone(badWords), "1", "get", "worker", "parts", "end") {
				words := s.words()
				if kind != 'w' || words[i+1] == bad {
					continue
				}
				words[i+1] = bad
				wantFault(t, "P22.1", s.closed(strings.Join(words, " ")), s.at(), badWord)
			}
		}
	}
}

// P22.1: a wrong number at each of its numbers.
func TestWrongNumbers(t *testing.T) {
	for _, s := range samples() {
		for i, kind := range s.wanted {
			bads := badNumbers
			switch kind {
			case 'w':
				continue
			case 'r':
				bads = append(slices.Clone(badNumbers), "0", "-1", "65", "-64", "1152921504606846976")
			}
			for _, bad := range bads {
				words := s.words()
				words[i+1] = bad
				wantFault(t, "P22.1", s.closed(strings.Join(words, " ")), s.at(), badNumber)
			}
		}
	}
}

// P22.1: the line's end at each of its words.
func TestLineEnds(t *testing.T) {
	for _, s := range samples() {
		words := s.words()
		for n := 1; n < len(words); n++ {
			text := s.closed(strings.Join(words[:n], " "))
			isWhole := s.many == "n" || s.many == "nn" && n%2 == 1 || words[n] == "fails"
			if isWhole {
				wantRead(t, "P22.1", text)
				continue
			}
			wantFault(t, "P22.1", text, s.at(), tooEarly)
			wantFault(t, "P22.1", s.closed(strings.Join(words[:n], " ")+" # "+words[n]), s.at(), tooEarly)
		}
	}
}

// P22.1: something behind the last thing that may stand.
func TestSomethingBehind(t *testing.T) {
	for _, s := range samples() {
		for _, more := range []string{"1", "x", "get", "worker", "-0", "fails", "end", "\r", "1 2"} {
			text := s.closed(s.line + " " + more)
			_, isNumber := plainNumber(more)
			switch {
			case s.many == "":
				wantFault(t, "P22.1", text, s.at(), badWord)
			case s.many == "n" && isNumber, more == "1 2":
				wantRead(t, "P22.1", text)
			case isNumber:
				wantFault(t, "P22.1", text, s.at(), tooEarly)
				wantFault(t, "P22.1", s.closed(s.line+" 1 x"), s.at(), badNumber)
			default:
				wantFault(t, "P22.1", text, s.at(), badNumber)
			}
		}
	}
	wantFault(t, "P22.1", "parts 1 workers 2 slots 40 leases 2 fails 1 fails 1", 1, badWord)
	wantFault(t, "P22.1", "parts 1 workers 2 slots 40 leases 2 more 1", 1, badWord)
	wantFault(t, "P22.1", "parts 1 workers 2 slots 40 leases 2 3", 1, badWord)
	wantFault(t, "P22.1", "parts 1 workers 2 slots 40 leases 2 fails", 1, tooEarly)
}

// errorAt: what a wrong thing at a word of the line is.
func (s sample) errorAt(i int) int {
	if i == 0 || s.wanted[i-1] == 'w' {
		return badWord
	}
	return badNumber
}

// P22.1: of two faults on one line the one to the left is told.
func TestTwoFaultsOnALine(t *testing.T) {
	for _, s := range samples() {
		n := len(s.words())
		for i := range n {
			for j := i + 1; j < n; j++ {
				words := s.words()
				words[i], words[j] = "x", "x"
				wantFault(t, "P22.1", s.closed(strings.Join(words, " ")), s.at(), s.errorAt(i))
			}
			words := s.words()
			words[i] = "x"
			wantFault(t, "P22.1", s.closed(strings.Join(words, " ")+" more of it"), s.at(), s.errorAt(i))
			wantFault(t, "P22.1", s.closed(strings.Join(words[:i+1], " ")), s.at(), s.errorAt(i))
		}
	}
}

// P22.1: of two lines with faults the first one is told, and how lines are counted.
func TestTwoFaultyLines(t *testing.T) {
	faults := []struct {
		line  string
		error int
	}{{"go", badWord}, {"get x", badNumber}, {"get", tooEarly}, {"get 1 2", badWord}, {"source 1", tooEarly}, {"repeat 0", badNumber}, {"worker 1", badWord}}
	for _, a := range faults {
		for _, b := range faults {
			wantFault(t, "P22.1", worked+a.line+"\n"+b.line, 3, a.error)
			wantFault(t, "P22.1", worked+"\n # x\nget 5\n\n"+a.line+"\n\n"+b.line+"\n", 7, a.error)
			wantFault(t, "P22.1", "\n\n"+worked+"\n"+a.line+"\n"+b.line, 6, a.error)
		}
		wantFault(t, "P22.1", "parts x\n"+a.line, 1, badNumber)
		wantFault(t, "P22.1", a.line+"\nparts x", 1, badWord)
	}
	many := worked + strings.Repeat("names\n", mostCalls)
	wantFault(t, "P22.1", many+"names\nget x", 3+mostCalls, tooMany)
	wantFault(t, "P22.1", many+"get x\nnames", 3+mostCalls, badNumber)
}
