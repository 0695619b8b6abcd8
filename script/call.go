package script

import (
	"skein/api"
	"skein/sheet"
)

// callWord: how a call is written: a word, then so many of A, B, C, then pairs or none.
type callWord struct {
	word    string
	numbers int
	pairs   bool
}

// callWords: by Kind; no call is of the first row.
var callWords = [...]callWord{
	{},
	{"get", 1, false},
	{"put", 2, false},
	{"drop", 1, false},
	{"swap", 3, false},
	{"many", 0, true},
	{"snap", 1, false},
	{"free", 1, false},
	{"peek", 2, false},
	{"name", 2, false},
	{"unname", 1, false},
	{"peeknamed", 2, false},
	{"trim", 1, false},
	{"advance", 0, false},
	{"collect", 0, false},
	{"names", 0, false},
	{"range", 3, false},
	{"count", 3, false},
	{"page", 3, false},
	{"diff", 2, false},
}

// kindOf tells which call a word is; 0: none.
func kindOf(word string) int {
	for kind, c := range callWords {
		if kind > 0 && c.word == word {
			return kind
		}
	}
	return 0
}

// readCall reads a line whose first word is that of a call.
func readCall(l *line) api.Call {
	c := api.Call{Kind: kindOf(l.first)}
	w := callWords[c.Kind]
	for i, field := range []*int{&c.A, &c.B, &c.C} {
		if i < w.numbers {
			*field = l.number()
		}
	}
	if w.pairs {
		c.Pairs = l.pairs()
	}
	l.end()
	return c
}

// fits tells whether a call has nothing but what is written of such a one.
func (w callWord) fits(c api.Call) bool {
	for i, n := range []int{c.A, c.B, c.C} {
		if i < w.numbers && !isNumber(n) || i >= w.numbers && n != 0 {
			return false
		}
	}
	for _, x := range c.Pairs {
		if !w.pairs || !isNumber(x.Key) || !isNumber(x.Value) {
			return false
		}
	}
	return true
}

func (w callWord) write(s *sheet.Sheet, c api.Call) {
	s.Word(w.word)
	s.Numbers([]int{c.A, c.B, c.C}[:w.numbers])
	s.Pairs(c.Pairs)
	s.End()
}

func hasText(c api.Call) bool {
	return c.Kind > 0 && c.Kind < len(callWords) && callWords[c.Kind].fits(c)
}

// firstWithoutText tells the number of the first call that has no text, counted through all workers; 0: all have one.
func firstWithoutText(work [][]api.Call) int {
	n := 0
	for _, calls := range work {
		for _, c := range calls {
			n++
			if !hasText(c) {
				return n
			}
		}
	}
	return 0
}
