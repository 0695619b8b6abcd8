package script_test

import (
	"slices"
	"strconv"
	"strings"
	"testing"

	"skein/api"
	"skein/script"
)

// plainText: the text of a script, by the words of the document.
func plainText(s api.Script) string {
	u, c := s.Setup, s.Case
	all := []string{"parts " + strconv.Itoa(u.Parts) + " workers " + strconv.Itoa(u.Workers) + " slots " + strconv.Itoa(u.Slots) + " leases " + strconv.Itoa(u.Leases)}
	if u.Fails != 0 {
		all[0] += " fails " + strconv.Itoa(u.Fails)
	}
	for _, x := range u.Source {
		all = append(all, "source "+strconv.Itoa(x.Key)+" "+strconv.Itoa(x.Value))
	}
	for _, calls := range c.Work {
		all = append(all, "worker")
		for _, x := range calls {
			all = append(all, callText(x))
		}
	}
	if len(c.Turns) > 0 {
		all = append(all, "turns "+strings.Join(numberWords(c.Turns), " "))
	}
	if len(c.Halt) > 0 {
		all = append(all, "halt "+strings.Join(numberWords(c.Halt), " "))
	}
	if c.Until != 0 {
		all = append(all, "until "+strconv.Itoa(c.Until))
	}
	return strings.Join(all, "\n") + "\n"
}

// P22.7, P22.10: there and back: what Print writes is read as the script, and what Parse reads is written, however its text was laid out.
func TestThereAndBack(t *testing.T) {
	var m mixer = 10
	for range often(10000) {
		s := m.script()
		wantText(t, "P22.10", s, plainText(s))
		text, _ := m.dressed(m.text(s))
		read := wantRead(t, "P22.10", text)
		if !same(read, s) {
			t.Fatalf("P22.10: Parse(%s): %+v, want %+v", shown(text), read, s)
		}
		wantText(t, "P22.10", read, plainText(s))
	}
}

// spoil changes a script so that it may have no text: it tells the Line of Print's fault; -1: there is none.
func (m *mixer) spoil(s *api.Script) int {
	at, n := 0, 0
	for k, calls := range s.Case.Work {
		s.Case.Work[k] = slices.Clone(calls)
		for i := range calls {
			n++
			if m.below(6) == 0 {
				s.Case.Work[k][i] = one(m, callsWithoutText())
				if at == 0 {
					at = n
				}
			}
		}
	}
	if at > 0 {
		return at
	}
	bad := one(m, outOfBounds)
	switch m.below(5) {
	case 0:
		s.Case.Until = bad
	case 1:
		s.Case.Turns = append(s.Case.Turns, bad)
	case 2:
		s.Setup.Slots = bad
	case 3:
		s.Setup.Source = append(s.Setup.Source, api.Pair{Key: 1, Value: bad})
	default:
		return -1
	}
	return 0
}

// P22.8: mixed scripts, of which some have no text.
func TestMixedPrints(t *testing.T) {
	var m mixer = 88
	seen := map[int]int{}
	for range often(5000) {
		s := m.script()
		line := m.spoil(&s)
		seen[min(line, 2)]++
		if line < 0 {
			wantText(t, "P22.7", s, plainText(s))
		} else {
			wantNoText(t, "P22.8", s, line)
		}
	}
	for line := -1; line <= 2; line++ {
		if seen[line] < often(200) {
			t.Errorf("the scripts are too plain: %v", seen)
		}
	}
}

// P22.10: what Parse reads Print writes, unless that text is too long.
func TestTextsThatGrow(t *testing.T) {
	for _, n := range []int{1, 2, 63, 64} {
		text := worked + "repeat " + strconv.Itoa(n) + "\n" + listed("many", 2000) + "end"
		s := wantRead(t, "P22.10", text)
		if long := plainText(s); len(long) > mostText {
			wantNoText(t, "P22.10", s, 0)
			wantFault(t, "P22.10", long, 1, tooLong)
		} else {
			wantText(t, "P22.10", s, long)
		}
	}
	// A source's pairs on one line take less than the lines that Print writes.
	s := wantRead(t, "P22.10", head+"source"+strings.Repeat(" -1000000000000000000 -1000000000000000000", mostSource)+"\nturns"+strings.Repeat(" 1", mostTurns))
	wantText(t, "P22.10", s, plainText(s))
	s = wantRead(t, "P22.10", head+"source"+strings.Repeat(" -1000000000000000000 -1000000000000000000", mostSource)+"\nturns"+strings.Repeat(" 1", mostTurns)+"\nhalt"+strings.Repeat(" 1", 7000))
	wantNoText(t, "P22.10", s, 0)
}

// P22.10: blanks, tabs, comments and lines without words change nothing but lines of faults.
func TestLayoutMovesFaults(t *testing.T) {
	var m mixer = 11
	seen := 0
	for range often(10000) {
		list := m.spoilt(m.text(m.script()))
		plain := strings.Join(list, "\n")
		text, at := m.dressed(list)
		s, line, number := modelParse(plain)
		switch {
		case number == 0:
			wantScript(t, "P22.10", text, s)
		case number == tooEarly && line == len(list) && wantsEnd(plain):
			wantFault(t, "P22.10", text, strings.Count(text, "\n")+1, tooEarly)
		default:
			seen++
			wantFault(t, "P22.10", text, at[line-1], number)
		}
	}
	if seen < often(3000) {
		t.Errorf("the texts are too plain: %d faults", seen)
	}
}

// wantsEnd tells whether a text's fault is that its last repeat has no end: then it hasn't it any more behind one.
func wantsEnd(text string) bool {
	_, _, number := modelParse(text + "\nend")
	return number != tooEarly
}

// P22.11: what stands on lines behind the faulty one doesn't bear on the fault.
func TestLinesBehindTheFault(t *testing.T) {
	var m mixer = 111
	seen := 0
	for range often(4000) {
		list := m.spoilt(m.text(m.script()))
		plain := strings.Join(list, "\n")
		_, line, number := modelParse(plain)
		if number == 0 || number == tooEarly && line == len(list) && wantsEnd(plain) {
			continue
		}
		seen++
		ahead := strings.Join(list[:line], "\n")
		wantFault(t, "P22.11", ahead, line, number)
		for _, behind := range []string{"\n", "\n\n\n", "\nend", "\ngo", "\n" + head, "\nend\nworker\nget 1\n", "\n\x00\xff", "\n" + strings.Repeat("#", mostText-len(ahead)-1)} {
			wantFault(t, "P22.11", ahead+behind, line, number)
		}
		wantFault(t, "P22.11", ahead+"\n"+strings.Repeat("#", mostText-len(ahead)), 1, tooLong)
	}
	if seen < often(1500) {
		t.Errorf("the texts are too plain: %d faults", seen)
	}
}

// P22.11: where a run ends by itself, a greater Until changes nothing.
func TestGreaterUntil(t *testing.T) {
	var m mixer = 1111
	seen := 0
	for range often(800) {
		s := m.playable()
		s.Case.Until = 0
		played := func(until int) string {
			s.Case.Until = until
			text, err := script.Print(s)
			if err != nil {
				t.Fatalf("P22.10: Print(%+v): %v", s, err)
			}
			told, err := script.Play(text)
			if err != nil {
				t.Fatalf("P22.9: Play(%s): %v", shown(text), err)
			}
			return told
		}
		told := played(0)
		if strings.Contains(told, " cut\n") {
			continue
		}
		steps := stepsOf(told)
		for _, until := range []int{steps, steps + 1, steps + 100, mostSteps} {
			if is := played(until); until > 0 && is != told {
				t.Fatalf("P22.11: %+v with until %d: %s, want %s", s, until, is, told)
			}
		}
		if steps > 1 {
			seen++
			if is := played(steps - 1); !strings.Contains(is, "\nsteps "+strconv.Itoa(steps-1)+" cut\n") {
				t.Fatalf("P22.9: %+v with until %d: %s", s, steps-1, is)
			}
		}
	}
	if seen < often(200) {
		t.Errorf("the scripts are too plain: %d", seen)
	}
}

// stepsOf: how many steps a play tells.
func stepsOf(told string) int {
	_, rest, _ := strings.Cut(told, "\nsteps ")
	n, _ := strconv.Atoi(rest[:strings.IndexAny(rest, " \n")])
	return n
}
