package script_test

import (
	"strconv"
	"strings"
	"testing"

	"skein/api"
)

// places: texts with a number at each place where any number may stand, and what a script has there.
func places() []struct {
	ahead, behind string
	line          int
	is            func(s api.Script) int
} {
	first := func(s api.Script) api.Call { return s.Case.Work[0][0] }
	return []struct {
		ahead, behind string
		line          int
		is            func(s api.Script) int
	}{
		{"parts ", " workers 1 slots 1 leases 1", 1, func(s api.Script) int { return s.Setup.Parts }},
		{"parts 1 workers ", " slots 1 leases 1", 1, func(s api.Script) int { return s.Setup.Workers }},
		{"parts 1 workers 1 slots ", " leases 1", 1, func(s api.Script) int { return s.Setup.Slots }},
		{"parts 1 workers 1 slots 1 leases ", "", 1, func(s api.Script) int { return s.Setup.Leases }},
		{"parts 1 workers 1 slots 1 leases 1 fails ", "", 1, func(s api.Script) int { return s.Setup.Fails }},
		{head + "source ", " 1", 2, func(s api.Script) int { return s.Setup.Source[0].Key }},
		{head + "source 1 ", "", 2, func(s api.Script) int { return s.Setup.Source[0].Value }},
		{head + "source 1 1 ", " 1", 2, func(s api.Script) int { return s.Setup.Source[1].Key }},
		{head + "turns ", " 1", 2, func(s api.Script) int { return s.Case.Turns[0] }},
		{head + "turns 1 ", "", 2, func(s api.Script) int { return s.Case.Turns[1] }},
		{head + "halt ", " 1", 2, func(s api.Script) int { return s.Case.Halt[0] }},
		{head + "halt 1 ", "", 2, func(s api.Script) int { return s.Case.Halt[1] }},
		{head + "until ", "", 2, func(s api.Script) int { return s.Case.Until }},
		{worked + "get ", "", 3, func(s api.Script) int { return first(s).A }},
		{worked + "swap ", " 1 1", 3, func(s api.Script) int { return first(s).A }},
		{worked + "swap 1 ", " 1", 3, func(s api.Script) int { return first(s).B }},
		{worked + "swap 1 1 ", "", 3, func(s api.Script) int { return first(s).C }},
		{worked + "diff 1 ", "", 3, func(s api.Script) int { return first(s).B }},
		{worked + "many ", " 1", 3, func(s api.Script) int { return first(s).Pairs[0].Key }},
		{worked + "many 1 ", "", 3, func(s api.Script) int { return first(s).Pairs[0].Value }},
	}
}

// P22.2: what is a number, and which one; at every place.
func TestNumbers(t *testing.T) {
	numbers := []int{0, 1, 2, 9, 10, 11, 99, 100, 101, 1000, 64, 65, 1<<31 - 1, 1 << 31, 1<<32 - 1, 1 << 32, 1<<40 + 3, 1111111111111111111, 999999999999999999, 1000000000000000000, mostNumber - 1, mostNumber}
	for _, p := range places() {
		for _, n := range numbers {
			for _, n := range []int{n, -n} {
				text := p.ahead + strconv.Itoa(n) + p.behind
				if s := wantRead(t, "P22.2", text); p.is(s) != n {
					t.Errorf("P22.2: Parse(%s): %+v, want %d", shown(text), s, n)
				}
			}
		}
		for _, bad := range badNumbers {
			wantFault(t, "P22.2", p.ahead+bad+p.behind, p.line, badNumber)
		}
		for _, n := range []int{mostNumber + 1, mostNumber + 4, mostNumber + 1<<59, 1 << 61, 1 << 62, highest, lowest + 1, -mostNumber - 1, -1 << 61, lowest} {
			wantFault(t, "P22.2", p.ahead+strconv.Itoa(n)+p.behind, p.line, badNumber)
		}
	}
}

// P22.2: numbers of many digits, which would go round.
func TestLongNumbers(t *testing.T) {
	const most = "1152921504606846976"
	for _, bad := range []string{
		most + "0", "-" + most + "0", most + "1", "1" + most, "0" + most, "-0" + most, "2152921504606846976", "1252921504606846976", "1152921504606846980", "2000000000000000000", "10000000000000000000",
		"18446744073709551615", "18446744073709551616", "18446744073709551621", "-18446744073709551616", "36893488147419103233", "340282366920938463463374607431768211457",
		strings.Repeat("1", 20), strings.Repeat("1", 30000), "-" + strings.Repeat("1", 30000), "1" + strings.Repeat("0", 30000), strings.Repeat("0", 30000), "1" + strings.Repeat("0", 64), "1" + strings.Repeat("0", 128),
	} {
		wantFault(t, "P22.2", worked+"get "+bad, 3, badNumber)
		wantFault(t, "P22.2", head+"turns 1 "+bad+" 1", 2, badNumber)
	}
}

// P22.2: every word of few letters is a number, or none, as the model says.
func TestShortWords(t *testing.T) {
	const letters = "-+0129x."
	words := []string{""}
	for range 4 {
		for _, w := range words {
			for _, c := range letters {
				words = append(words, w+string(c))
			}
		}
	}
	if testing.Short() {
		words = words[len(words)-1000:]
	}
	for _, w := range words {
		wantModel(t, "P22.2", head+"until "+w)
	}
}
