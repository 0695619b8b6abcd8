package script_test

import (
	"slices"
	"strconv"
	"strings"
	"testing"

	"skein/api"
	"skein/script"
)

// mixer: numbers that look mixed, the same ones each time.
type mixer uint64

func (m *mixer) below(n int) int {
	*m = *m*6364136223846793005 + 1442695040888963407
	return int(uint64(*m) >> 33 % uint64(n))
}

func (m *mixer) maybe() bool { return m.below(2) == 0 }

func one[T any](m *mixer, list []T) T { return list[m.below(len(list))] }

var (
	fewNumbers = []int{0, 0, 1, 1, 2, 3, 5, 9, 10, 63, 100, 4000000000, 1<<32 - 1, 1 << 32, -1, -2, -10, mostNumber - 1, mostNumber, -mostNumber, -mostNumber + 1}
	badNumbers = []string{"-0", "00", "01", "-01", "+1", "+0", "-", "--1", "1-", "x", "0x1", "1e3", "1.0", "1_000", "1,", "1152921504606846977", "-1152921504606846977", "9223372036854775807", "-9223372036854775808", "18446744073709551616", "18446744073709551617", strings.Repeat("9", 200), "\u0663", "\uff11", "1\r", "\x001", "\xff", "\u00a01", "get", "\""}
	badWords   = []string{"x", "5", "Get", "GET", "gets", "ge", "Parts", "part", "WORKER", "workers", "slots", "leases", "fails", "state", "view", "turn", "halts", "repeats", "ends", "get\r", "\xffget", "get,", "get;", "-", "0", "get\x00", "\u00a0", "\v", "\u2003get"}
)

// call makes a call that has a text.
func (m *mixer) call() api.Call {
	c := api.Call{Kind: 1 + m.below(len(callNames))}
	n := fieldsOf[c.Kind-1]
	for i, field := range []*int{&c.A, &c.B, &c.C} {
		if i < n {
			*field = one(m, fewNumbers)
		}
	}
	if n < 0 {
		c.Pairs = m.pairs(m.below(4))
	}
	return c
}

func (m *mixer) pairs(n int) []api.Pair {
	var list []api.Pair
	for range n {
		list = append(list, api.Pair{Key: one(m, fewNumbers), Value: one(m, fewNumbers)})
	}
	return list
}

func (m *mixer) numbers(n int) []int {
	var list []int
	for range n {
		list = append(list, one(m, fewNumbers))
	}
	return list
}

// script makes a script that has a text.
func (m *mixer) script() api.Script {
	var s api.Script
	s.Setup = api.Setup{Parts: one(m, fewNumbers), Workers: one(m, fewNumbers), Slots: one(m, fewNumbers), Leases: one(m, fewNumbers), Source: m.pairs(m.below(4))}
	if m.maybe() {
		s.Setup.Fails = one(m, fewNumbers)
	}
	for range m.below(5) {
		var calls []api.Call
		for range m.below(6) {
			calls = append(calls, m.call())
		}
		s.Case.Work = append(s.Case.Work, calls)
	}
	s.Case.Turns, s.Case.Halt = m.numbers(m.below(5)), m.numbers(m.below(3))
	if m.maybe() {
		s.Case.Until = one(m, fewNumbers)
	}
	return s
}

// callText: a call's line, by the table of the document.
func callText(c api.Call) string {
	words := []string{callNames[c.Kind-1]}
	for _, n := range []int{c.A, c.B, c.C}[:max(fieldsOf[c.Kind-1], 0)] {
		words = append(words, strconv.Itoa(n))
	}
	return strings.Join(append(words, pairWords(c.Pairs)...), " ")
}

func pairWords(list []api.Pair) []string {
	var words []string
	for _, x := range list {
		words = append(words, strconv.Itoa(x.Key), strconv.Itoa(x.Value))
	}
	return words
}

func numberWords(list []int) []string {
	var words []string
	for _, n := range list {
		words = append(words, strconv.Itoa(n))
	}
	return words
}

// listLines: a list in lines of any lengths, some of which have nothing but the word.
func (m *mixer) listLines(word string, list []string, each int) []string {
	var all []string
	for len(list) > 0 {
		n := min(len(list), each*m.below(4))
		all = append(all, strings.Join(append([]string{word}, list[:n]...), " "))
		list = list[n:]
	}
	if m.below(4) == 0 {
		all = append(all, word)
	}
	return all
}

// workLines: a worker's lines; where calls come again, sometimes as a repeat.
func (m *mixer) workLines(calls []api.Call) []string {
	all := []string{"worker"}
	for len(calls) > 0 {
		n := 1 + m.below(min(3, len(calls)))
		times := 1
		for len(calls) >= n*(times+1) && sameCalls(calls[:n], calls[n*times:n*(times+1)]) {
			times++
		}
		whole := m.maybe()
		if whole {
			all = append(all, "repeat "+strconv.Itoa(times))
		} else {
			times = 1
		}
		for _, c := range calls[:n] {
			all = append(all, callText(c))
		}
		if whole {
			all = append(all, "end")
		}
		calls = calls[n*times:]
		if m.below(6) == 0 {
			all = append(all, "repeat "+strconv.Itoa(1+m.below(64)), "end")
		}
	}
	return all
}

func sameCalls(a, b []api.Call) bool {
	return same(worksOn(a), worksOn(b))
}

// text writes a script's lines in some order that leaves it as it is.
func (m *mixer) text(s api.Script) []string {
	u, c := s.Setup, s.Case
	first := "parts " + strings.Join([]string{strconv.Itoa(u.Parts), "workers", strconv.Itoa(u.Workers), "slots", strconv.Itoa(u.Slots), "leases", strconv.Itoa(u.Leases)}, " ")
	if u.Fails != 0 || m.maybe() {
		first += " fails " + strconv.Itoa(u.Fails)
	}
	groups := [][]string{m.listLines("source", pairWords(u.Source), 2), m.listLines("turns", numberWords(c.Turns), 1), m.listLines("halt", numberWords(c.Halt), 1)}
	if c.Until != 0 || m.maybe() {
		groups = append(groups, []string{"until " + strconv.Itoa(c.Until)})
	}
	var work []string
	for _, calls := range c.Work {
		work = append(work, m.workLines(calls)...)
	}
	return append([]string{first}, m.shuffled(append(groups, work))...)
}

// shuffled lays groups of lines into one another, each in its order, and nothing into a repeat.
func (m *mixer) shuffled(groups [][]string) []string {
	var all []string
	for {
		groups = slices.DeleteFunc(groups, func(g []string) bool { return len(g) == 0 })
		if len(groups) == 0 {
			return all
		}
		i := m.below(len(groups))
		n := 1
		if strings.HasPrefix(groups[i][0], "repeat") {
			n = slices.Index(groups[i], "end") + 1
		}
		all = append(all, groups[i][:n]...)
		groups[i] = groups[i][n:]
	}
}

var (
	someBlanks   = []string{" ", " ", "\t", "  ", " \t ", "\t\t"}
	someComments = []string{"", "", "", "#", " # so", "#get 5", " # x # y", "##", "\t#\x00\xff\r"}
	someNothings = []string{"", " ", "\t", "#", "  # worker", "#\r", "# parts 1", " \t \t"}
)

// dressed writes lines with blanks, tabs, comments and lines without words more: the text, and of each line its number there.
func (m *mixer) dressed(list []string) (string, []int) {
	var all []string
	var at []int
	for _, line := range list {
		for range m.below(3) {
			all = append(all, one(m, someNothings))
		}
		words := strings.Split(line, " ")
		text := ""
		if m.maybe() {
			text = one(m, someBlanks)
		}
		for i, w := range words {
			if i > 0 {
				text += one(m, someBlanks)
			}
			text += w
		}
		if m.maybe() {
			text += one(m, someBlanks)
		}
		all = append(all, text+one(m, someComments))
		at = append(at, len(all))
	}
	for range m.below(3) {
		all = append(all, one(m, someNothings))
	}
	return strings.Join(all, "\n"), at
}

// spoilt changes lines so that something may be wrong.
func (m *mixer) spoilt(list []string) []string {
	list = slices.Clone(list)
	for range 1 + m.below(2) {
		i := m.below(len(list))
		words := strings.Split(list[i], " ")
		at := m.below(len(words) + 1)
		switch m.below(9) {
		case 0, 1:
			words = slices.Insert(words, at, one(m, badNumbers))
		case 2:
			words = slices.Insert(words, at, one(m, badWords))
		case 3:
			words = words[:at]
		case 4, 5:
			words[min(at, len(words)-1)] = one(m, append(badNumbers, badWords...))
		case 6:
			list[i] = list[m.below(len(list))]
			continue
		case 7:
			list = slices.Insert(list, i, one(m, list))
			continue
		case 8:
			list = slices.Insert(list, i, one(m, []string{"repeat 2", "end", "worker", "until 0", "source 1", "source 1 2", "turns 3", "halt 0", "get 1", "names", "repeat 64", "parts 1 workers 1 slots 1 leases 1", "go"}))
			continue
		}
		list[i] = strings.Join(words, " ")
		if len(words) == 0 {
			list[i] = "halt" // so that each line has words
		}
	}
	return list
}

// wantModel holds Parse against the model: it tells the number of the fault, 0: none.
func wantModel(t *testing.T, what, text string) int {
	t.Helper()
	want, line, number := modelParse(text)
	if number == 0 {
		wantScript(t, what, text, want)
		return 0
	}
	s, err := script.Parse(text)
	if !isFault(err, line, number) || !same(s, api.Script{}) {
		t.Fatalf("%s: Parse(%s): %+v, %v, want line %d: err %d", what, shown(text), s, err, line, number)
	}
	return number
}

// often: how many mixed texts are tried.
func often(n int) int {
	if testing.Short() {
		return n / 10
	}
	return n
}

// P22.1 to P22.6: texts of all kinds, right and wrong ones.
func TestMixedTexts(t *testing.T) {
	var m mixer = 22
	seen := map[int]int{}
	for range often(20000) {
		list := m.text(m.script())
		if m.below(5) > 0 {
			list = m.spoilt(list)
		}
		text, _ := m.dressed(list)
		if m.below(4) == 0 {
			text = strings.Join(list, "\n")
		}
		seen[wantModel(t, "P22.1 to P22.6", text)]++
	}
	for _, number := range []int{0, badWord, badNumber, tooEarly} {
		if seen[number] < often(300) {
			t.Errorf("the texts are too plain: %v", seen)
		}
	}
}

// The same of texts with many workers, calls and repeats: of these some have too many.
func TestMixedTextsOfManyCalls(t *testing.T) {
	var m mixer = 5
	seen := map[int]int{}
	some := []string{"worker", "get 1", "names", "put 1 2", "many 1 2 3 4", "many", "repeat 2", "repeat 3", "repeat 20", "end", "end", "advance", "diff 0 1", "collect", "repeat 64"}
	for range often(10000) {
		list := []string{strings.TrimSuffix(head, "\n"), "worker"}
		open := false
		for range m.below(120) {
			line := one(&m, some)
			isRepeat := strings.HasPrefix(line, "repeat")
			switch {
			case open && (isRepeat || line == "worker") && m.below(30) > 0, !open && line == "end" && m.below(30) > 0, line == "worker" && m.below(4) > 0:
				continue
			}
			open = isRepeat || open && line != "end"
			list = append(list, slices.Repeat([]string{line}, 1+m.below(1+bit(kindNamed(strings.Fields(line)[0]) > 0)*8))...)
		}
		seen[wantModel(t, "P22.4, P22.5", strings.Join(list, "\n"))]++
	}
	for _, number := range []int{0, badWord, tooEarly, tooMany} {
		if seen[number] < often(200) {
			t.Errorf("the texts are too plain: %v", seen)
		}
	}
}

func bit(b bool) int {
	if b {
		return 1
	}
	return 0
}
