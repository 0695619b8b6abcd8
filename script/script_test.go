package script_test

import (
	"errors"
	"fmt"
	"reflect"
	"strings"
	"testing"

	"skein/api"
	"skein/script"
)

// The errors, by their numbers.
const (
	badWord   = 220
	badNumber = 221
	tooLong   = 222
	tooMany   = 223
	tooEarly  = 224
	noText    = 225
)

// The limits.
const (
	mostText    = 65536
	mostTurns   = 20000
	mostSteps   = 20000
	mostWorkers = 8
	mostCalls   = 64
	mostSource  = 256
	mostNumber  = 1 << 60
	lowest      = -1 << 63
	highest     = 1<<63 - 1
)

const (
	head   = "parts 1 workers 2 slots 40 leases 2\n"
	worked = head + "worker\n" // calls may stand behind it, on line 3 and further on
)

func headSetup() api.Setup { return api.Setup{Parts: 1, Workers: 2, Slots: 40, Leases: 2} }

// shown: a text for a report, cut where it is long.
func shown(text string) string {
	if len(text) > 400 {
		return fmt.Sprintf("%q .. (%d bytes) .. %q", text[:200], len(text), text[len(text)-200:])
	}
	return fmt.Sprintf("%q", text)
}

// plainScript: a script in which empty lists are nil, as DOC.md tells no difference.
func plainScript(s api.Script) api.Script {
	s.Setup.Source = plainList(s.Setup.Source)
	s.Case.Turns, s.Case.Halt = plainList(s.Case.Turns), plainList(s.Case.Halt)
	var work [][]api.Call
	for _, calls := range s.Case.Work {
		var list []api.Call
		for _, c := range calls {
			c.Pairs = plainList(c.Pairs)
			list = append(list, c)
		}
		work = append(work, list)
	}
	s.Case.Work = work
	return s
}

func plainList[T any](list []T) []T { return append([]T(nil), list...) }

func same(a, b api.Script) bool { return reflect.DeepEqual(plainScript(a), plainScript(b)) }

// isFault tells whether an error is a fault of that line and number; of api's numbers errors.Is must find that one alone.
func isFault(err error, line, number int) bool {
	f, ok := err.(*api.Fault)
	if !ok || f == nil || f.Line != line || int(f.Err) != number {
		return false
	}
	for n := range 400 {
		if errors.Is(err, api.Errno(n)) != (n == number) {
			return false
		}
	}
	var as *api.Fault
	return errors.As(err, &as) && as == f
}

// wantFault asks Parse, and Play, for a fault, and for nothing beside it.
func wantFault(t *testing.T, what, text string, line, number int) {
	t.Helper()
	s, err := script.Parse(text)
	if !isFault(err, line, number) || !same(s, api.Script{}) {
		t.Errorf("%s: Parse(%s): %+v, %v, want line %d: err %d", what, shown(text), s, err, line, number)
	}
	told, err := script.Play(text)
	if !isFault(err, line, number) || told != "" {
		t.Errorf("%s: Play(%s): %s, %v, want line %d: err %d", what, shown(text), shown(told), err, line, number)
	}
}

// wantScript asks Parse for a script.
func wantScript(t *testing.T, what, text string, want api.Script) {
	t.Helper()
	s, err := script.Parse(text)
	if err != nil || !same(s, want) {
		t.Errorf("%s: Parse(%s): %+v, %v, want %+v", what, shown(text), s, err, want)
	}
}

// wantRead asks Parse for whatever script, without a fault.
func wantRead(t *testing.T, what, text string) api.Script {
	t.Helper()
	s, err := script.Parse(text)
	if err != nil {
		t.Errorf("%s: Parse(%s): %v", what, shown(text), err)
	}
	return s
}

// wantText asks Print for a text, and that it is read as what was printed.
func wantText(t *testing.T, what string, s api.Script, want string) {
	t.Helper()
	text, err := script.Print(s)
	if err != nil || text != want {
		t.Errorf("%s: Print(%+v): %s, %v, want %s", what, s, shown(text), err, shown(want))
	}
	wantScript(t, what, want, s)
}

// wantNoText asks Print for a fault, and for nothing beside it.
func wantNoText(t *testing.T, what string, s api.Script, line int) {
	t.Helper()
	text, err := script.Print(s)
	if text != "" || !isFault(err, line, noText) {
		t.Errorf("%s: Print: %s, %v, want line %d: err %d", what, shown(text), err, line, noText)
	}
}

func lines(list ...string) string { return strings.Join(list, "\n") }

func pairs(list ...int) []api.Pair {
	var l []api.Pair
	for i := 0; i < len(list); i += 2 {
		l = append(l, api.Pair{Key: list[i], Value: list[i+1]})
	}
	return l
}

// worksOn: the script of head, with these workers.
func worksOn(work ...[]api.Call) api.Script {
	return api.Script{Setup: headSetup(), Case: api.Case{Work: work}}
}
