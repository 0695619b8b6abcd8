package script_test

import (
	"math/big"
	"slices"
	"strings"

	"skein/api"
)

// shape: what stands behind a line's first word: words that are wanted as they are, N (a number), R (how often), LIST (numbers), PAIRS; what is in [ ] may be missing.
type shape []string

// plainShapes: those of lines that aren't calls.
var plainShapes = map[string]shape{
	"parts":  {"N", "workers", "N", "slots", "N", "leases", "N", "[", "fails", "N"},
	"source": {"PAIRS"},
	"worker": {},
	"turns":  {"LIST"},
	"halt":   {"LIST"},
	"until":  {"N"},
	"repeat": {"R"},
	"end":    {},
}

// callNames: by Kind, from 1 on.
var callNames = strings.Fields("get put drop swap many snap free peek name unname peeknamed trim advance collect names range count page diff")

// fieldsOf: by Kind, from 1 on: how many of A, B, C a call has; -1: pairs.
var fieldsOf = []int{1, 2, 1, 3, -1, 1, 1, 2, 2, 1, 2, 1, 0, 0, 0, 3, 3, 3, 2}

func kindNamed(word string) int { return slices.Index(callNames, word) + 1 }

// callShape: that of a call.
func callShape(kind int) shape {
	if n := fieldsOf[kind-1]; n >= 0 {
		return slices.Repeat(shape{"N"}, n)
	}
	return shape{"PAIRS"}
}

// splitWords: the words of a line, byte by byte.
func splitWords(line string) []string {
	var words []string
	open := false
	for i := 0; i < len(line) && line[i] != '#'; i++ {
		if line[i] == ' ' || line[i] == '\t' {
			open = false
			continue
		}
		if !open {
			words, open = append(words, ""), true
		}
		words[len(words)-1] += line[i : i+1]
	}
	return words
}

// plainNumber: what a word is, by its digits, and then by big numbers.
func plainNumber(word string) (int, bool) {
	if word == "0" {
		return 0, true
	}
	rest := strings.TrimPrefix(word, "-")
	if rest == "" || rest[0] == '0' || strings.Trim(rest, "0123456789") != "" {
		return 0, false
	}
	n, _ := new(big.Int).SetString(word, 10)
	if n.CmpAbs(big.NewInt(mostNumber)) > 0 {
		return 0, false
	}
	return int(n.Int64()), true
}

// fit holds words against a shape: the numbers that stand there, or the first fault.
func (s shape) fit(words []string) ([]int, int) {
	var list []int
	for i := 0; i < len(s); i++ {
		many := s[i] == "LIST" || s[i] == "PAIRS"
		if (many || s[i] == "[") && len(words) == 0 {
			return list, 0
		}
		if s[i] == "[" {
			continue
		}
		if len(words) == 0 {
			return nil, tooEarly
		}
		isNumber := many || s[i] == "N" || s[i] == "R"
		n, ok := plainNumber(words[0])
		switch {
		case isNumber && !ok, s[i] == "R" && (n < 1 || n > mostCalls):
			return nil, badNumber
		case !isNumber && words[0] != s[i]:
			return nil, badWord
		case isNumber:
			list = append(list, n)
		}
		words = words[1:]
		if s[i] == "PAIRS" {
			if len(words) == 0 {
				return nil, tooEarly
			}
			if n, ok = plainNumber(words[0]); !ok {
				return nil, badNumber
			}
			list, words = append(list, n), words[1:]
		}
		if many {
			i--
		}
	}
	if len(words) > 0 {
		return nil, badWord
	}
	return list, 0
}

// model: what the document says of a text, line by line.
type model struct {
	s             api.Script
	begun, untils bool
	times, from   int // of the repeat that is open: how often, and behind how many calls; times 0: none is
}

// modelParse: the script; or the line and the number of the fault.
func modelParse(text string) (api.Script, int, int) {
	if len(text) > mostText {
		return api.Script{}, 1, tooLong
	}
	var m model
	all := strings.SplitAfter(text, "\n")
	for i, line := range all {
		if err := m.line(splitWords(strings.TrimSuffix(line, "\n"))); err != 0 {
			return api.Script{}, i + 1, err
		}
	}
	if !m.begun || m.times > 0 {
		return api.Script{}, len(all), tooEarly
	}
	return m.s, 0, 0
}

func (m *model) line(words []string) int {
	if len(words) == 0 {
		return 0
	}
	word, kind := words[0], kindNamed(words[0])
	s, known := plainShapes[word]
	if kind > 0 {
		s, known = callShape(kind), true
	}
	alone := len(m.s.Case.Work) == 0
	switch {
	case !known, (word == "parts") == m.begun, (word == "end") != (m.times > 0) && kind == 0, alone && (kind > 0 || word == "repeat"), word == "until" && m.untils:
		return badWord
	}
	list, err := s.fit(words[1:])
	if err != 0 {
		return err
	}
	if kind > 0 {
		return m.call(kind, list)
	}
	return m.plain(word, list)
}

func (m *model) last() *[]api.Call { return &m.s.Case.Work[len(m.s.Case.Work)-1] }

func ifMore(n, most int) int {
	if n > most {
		return tooMany
	}
	return 0
}

// call: within a repeat, too, a call is the worker's at once, and its further times come with the end.
func (m *model) call(kind int, list []int) int {
	c := api.Call{Kind: kind}
	if fieldsOf[kind-1] < 0 {
		c.Pairs = pairs(list...)
	} else {
		list = append(list, 0, 0, 0)
		c.A, c.B, c.C = list[0], list[1], list[2]
	}
	*m.last() = append(*m.last(), c)
	return ifMore(len(*m.last()), mostCalls)
}

func (m *model) plain(word string, list []int) int {
	u, c := &m.s.Setup, &m.s.Case
	switch word {
	case "parts":
		list = append(list, 0)
		u.Parts, u.Workers, u.Slots, u.Leases, u.Fails = list[0], list[1], list[2], list[3], list[4]
		m.begun = true
	case "source":
		u.Source = append(u.Source, pairs(list...)...)
		return ifMore(len(u.Source), mostSource)
	case "worker":
		c.Work = append(c.Work, nil)
		return ifMore(len(c.Work), mostWorkers)
	case "turns":
		c.Turns = append(c.Turns, list...)
		return ifMore(len(c.Turns), mostTurns)
	case "halt":
		c.Halt = append(c.Halt, list...)
		return ifMore(len(c.Halt), mostTurns)
	case "until":
		c.Until, m.untils = list[0], true
	case "repeat":
		m.times, m.from = list[0], len(*m.last())
	case "end":
		body := (*m.last())[m.from:]
		*m.last() = slices.Concat((*m.last())[:m.from], slices.Repeat(body, m.times))
		m.times = 0
		return ifMore(len(*m.last()), mostCalls)
	}
	return 0
}
