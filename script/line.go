package script

import (
	"strings"

	"skein/api"
)

// line: what of a line wasn't read yet, and the first fault that was met; behind one nothing more is read.
type line struct {
	first string // its first word; empty: it has no words
	words []string
	err   api.Errno
}

// newLine reads the first word of a line.
func newLine(text string) *line {
	said, _, _ := strings.Cut(text, "#")
	words := strings.FieldsFunc(said, isBlank)
	if len(words) == 0 {
		return &line{}
	}
	return &line{first: words[0], words: words[1:]}
}

func isBlank(c rune) bool { return c == ' ' || c == '\t' }

// fault keeps a fault, if it is the first one.
func (l *line) fault(err api.Errno) {
	if l.err == api.OK {
		l.err = err
	}
}

// more tells whether there is something to read.
func (l *line) more() bool { return l.err == api.OK && len(l.words) > 0 }

// next reads a word, where something is wanted; no word is empty, so that is told behind a fault.
func (l *line) next() string {
	if !l.more() {
		l.fault(api.ErrScriptEnd)
		return ""
	}
	word := l.words[0]
	l.words = l.words[1:]
	return word
}

func (l *line) number() int {
	n, ok := numberOf(l.next())
	if !ok {
		l.fault(api.ErrScriptNumber)
	}
	return n
}

// numberFrom reads a number that has bounds.
func (l *line) numberFrom(least, most int) int {
	n := l.number()
	if n < least || n > most {
		l.fault(api.ErrScriptNumber)
	}
	return n
}

// named reads a certain word, and a number.
func (l *line) named(word string) int {
	if l.next() != word {
		l.fault(api.ErrScriptWord)
	}
	return l.number()
}

// numbers reads what is left.
func (l *line) numbers() []int {
	var list []int
	for l.more() {
		list = append(list, l.number())
	}
	return list
}

// pairs reads what is left.
func (l *line) pairs() []api.Pair {
	var list []api.Pair
	for l.more() {
		key := l.number()
		list = append(list, api.Pair{Key: key, Value: l.number()})
	}
	return list
}

// end: nothing may stand any more.
func (l *line) end() {
	if l.more() {
		l.fault(api.ErrScriptWord)
	}
}

// atMost is asked when all words were read: too many are told behind what is wrong with them.
func (l *line) atMost(n, most int) {
	if n > most {
		l.fault(api.ErrScriptMany)
	}
}
