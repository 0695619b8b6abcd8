package script_test

import (
	"reflect"
	"slices"
	"strings"
	"sync"
	"testing"

	"skein/api"
	"skein/script"
)

// roomy copies a list into one with spare room, in which something stands.
func roomy[T any](list []T, more T) []T {
	room := append(slices.Clone(list), more, more, more)
	return room[:len(list)]
}

// whole: a list with the spare room behind it.
func whole[T any](list []T) []T { return list[:cap(list)] }

// writeOver writes into a list and all the spare room behind it.
func writeOver[T any](list []T, x T) {
	list = whole(list)
	for i := range list {
		list[i] = x
	}
}

var spoiltPair = api.Pair{Key: -99, Value: -99}

// lists: what writes over each list of a script, its own memory alone, and then takes it out of the script.
func listsOf(s *api.Script) []func(s *api.Script) {
	all := []func(s *api.Script){
		func(s *api.Script) { writeOver(s.Setup.Source, spoiltPair); s.Setup.Source = nil },
		func(s *api.Script) { writeOver(s.Case.Turns, -99); s.Case.Turns = nil },
		func(s *api.Script) { writeOver(s.Case.Halt, -99); s.Case.Halt = nil },
	}
	for k, calls := range s.Case.Work {
		for i := range calls {
			all = append(all, func(s *api.Script) { writeOver(s.Case.Work[k][i].Pairs, spoiltPair); s.Case.Work[k][i].Pairs = nil })
		}
		all = append(all, func(s *api.Script) { writeOver(s.Case.Work[k], api.Call{Kind: -99}); s.Case.Work[k] = nil })
	}
	return append(all, func(s *api.Script) { writeOver(s.Case.Work, []api.Call{{Kind: -99}}); s.Case.Work = nil })
}

// takenOut: a script's copy, with what one of listsOf takes out taken out.
func takenOut(s api.Script, f func(s *api.Script)) api.Script {
	s = plainScript(s)
	f(&s)
	return s
}

// Rule 3: what Parse answers is new memory: no answer is touched by what is done with another one, and no two lists of one share any.
func TestMemoryOfParse(t *testing.T) {
	var m mixer = 3
	texts := []string{
		worked + lines("repeat 8", "many 1 2 3 4", "many 5 6", "end", "repeat 2", "many 7 8", "end", "many 9 9", "worker", "repeat 3", "many 1 2", "names", "end"),
		head + strings.Repeat("source 1 2\nturns 1\nhalt 2 3\nsource 4 5 6 7\n", 5) + strings.Repeat("worker\nget 1\nmany 1 1\n", 8),
	}
	for range often(500) {
		texts = append(texts, strings.Join(m.text(m.script()), "\n"))
	}
	for _, text := range texts {
		first, second := wantRead(t, "rule 3", text), wantRead(t, "rule 3", text)
		kept := plainScript(second)
		for _, f := range listsOf(&first) {
			left := takenOut(first, f)
			f(&first)
			if !same(first, left) {
				t.Fatalf("rule 3: Parse(%s): two lists share memory: %+v, want %+v", shown(text), first, left)
			}
		}
		if !same(second, kept) {
			t.Fatalf("rule 3: Parse(%s): an answer was changed by what was done with another one", shown(text))
		}
		wantScript(t, "rule 6", text, kept)
	}
}

// roomyScript: a script whose lists all have spare room, in which something stands.
func roomyScript(s api.Script) api.Script {
	s.Setup.Source = roomy(s.Setup.Source, spoiltPair)
	s.Case.Turns, s.Case.Halt = roomy(s.Case.Turns, 71), roomy(s.Case.Halt, 71)
	work := roomy(s.Case.Work, []api.Call{{Kind: 71}})
	for k, calls := range work {
		work[k] = roomy(calls, api.Call{Kind: 71})
		for i := range work[k] {
			work[k][i].Pairs = roomy(work[k][i].Pairs, spoiltPair)
		}
	}
	s.Case.Work = work
	return s
}

// wholeScript: all that can be seen of a script, its spare room too, apart from it.
func wholeScript(s api.Script) []any {
	all := []any{s.Setup.Parts, s.Setup.Workers, s.Setup.Slots, s.Setup.Leases, s.Setup.Fails, s.Case.Until, slices.Clone(whole(s.Setup.Source)), slices.Clone(whole(s.Case.Turns)), slices.Clone(whole(s.Case.Halt))}
	for _, calls := range whole(s.Case.Work) {
		for _, c := range whole(calls) {
			c.Pairs = slices.Clone(whole(c.Pairs))
			all = append(all, c)
		}
		all = append(all, len(calls))
	}
	return all
}

// Rule 3: Print neither changes nor keeps what it is handed in; rule 6: it answers the same each time.
func TestMemoryOfPrint(t *testing.T) {
	var m mixer = 33
	for range often(1000) {
		s := m.script()
		m.spoil(&s)
		s = roomyScript(s)
		was := wholeScript(s)
		text, err := script.Print(s)
		again, errAgain := script.Print(s)
		if text != again || !reflect.DeepEqual(err, errAgain) {
			t.Fatalf("rule 6: Print(%+v): %q, %v, then %q, %v", s, text, err, again, errAgain)
		}
		if !reflect.DeepEqual(wholeScript(s), was) {
			t.Fatalf("rule 3: Print changed what was handed in: %+v", s)
		}
		kept := strings.Clone(text)
		for _, f := range listsOf(&s) {
			f(&s)
		}
		if text != kept {
			t.Fatalf("rule 3: a text was changed by what was done with its script")
		}
	}
}

// Rule 3: faults are new memory, too.
func TestMemoryOfFaults(t *testing.T) {
	ask := []func() error{
		func() error { _, err := script.Parse("go"); return err },
		func() error { _, err := script.Parse(""); return err },
		func() error { _, err := script.Parse(strings.Repeat("x", mostText+1)); return err },
		func() error { _, err := script.Play(worked + "get"); return err },
		func() error { _, err := script.Print(worksOn([]api.Call{{}})); return err },
		func() error { _, err := script.Print(api.Script{Setup: api.Setup{Parts: highest}}); return err },
	}
	for i, f := range ask {
		a, b := f(), f()
		kept := *b.(*api.Fault)
		*a.(*api.Fault) = api.Fault{Line: -99, Err: -99}
		c := f()
		if *b.(*api.Fault) != kept || *c.(*api.Fault) != kept {
			t.Errorf("rule 3: row %d: %v, %v, want %v", i, b, c, kept)
		}
	}
}

// Rule 6: many texts one behind the other don't meet, whatever faults there were ahead.
func TestManyTexts(t *testing.T) {
	var m mixer = 6
	texts := []string{head, "", "go", worked + "repeat 2\nget 1", worked + "until 5", worked + "until 5\nuntil 5", worked + "many 1", strings.Repeat("x", mostText+1), worked + strings.Repeat("names\n", 65)}
	for range 30 {
		list := m.text(m.script())
		texts = append(texts, strings.Join(list, "\n"), strings.Join(m.spoilt(list), "\n"))
	}
	for range often(5000) {
		wantModel(t, "rule 6", one(&m, texts))
	}
}

// Rule 6: many may ask at once.
func TestAtOneTime(t *testing.T) {
	var m mixer = 66
	var scripts []api.Script
	var texts, tells []string
	for range 8 {
		s := m.playable()
		text := plainText(s)
		told, _ := script.Play(text)
		scripts, texts, tells = append(scripts, s), append(texts, text), append(tells, told)
	}
	var done sync.WaitGroup
	for k := range 8 {
		done.Go(func() {
			for i := range 20 {
				n := (k + i) % 8
				s, err := script.Parse(texts[n])
				if err != nil || !same(s, scripts[n]) {
					t.Errorf("rule 6: Parse(%s): %+v, %v", shown(texts[n]), s, err)
				}
				if told, err := script.Play(texts[n]); err != nil || told != tells[n] {
					t.Errorf("rule 6: Play(%s): %s, %v, want %s", shown(texts[n]), told, err, tells[n])
				}
				if text, err := script.Print(scripts[n]); err != nil || text != texts[n] {
					t.Errorf("rule 6: Print(%+v): %s, %v", scripts[n], text, err)
				}
			}
		})
	}
	done.Wait()
}
