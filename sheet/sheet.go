// Package sheet: lines of words, written up to so many bytes; a run told by them.
package sheet

import (
	"strconv"

	"skein/api"
)

// Sheet: the lines that were laid, and the one that is being written.
type Sheet struct {
	text  []byte
	start int // of the line that is being written
	most  int
	full  bool
}

// New makes a sheet without lines, for at most so many bytes.
func New(most int) *Sheet { return &Sheet{most: most} }

// lay writes a piece. If there is no room for it, its line isn't there any more, and nothing is laid behind it.
func (s *Sheet) lay(piece string) {
	if s.full {
		return
	}
	if len(s.text)+len(piece) > s.most {
		s.text, s.full = s.text[:s.start], true
		return
	}
	s.text = append(s.text, piece...)
}

// Word writes a word, behind those of its line.
func (s *Sheet) Word(word string) {
	if len(s.text) > s.start {
		s.lay(" ")
	}
	s.lay(word)
}

// Number writes a number as a word.
func (s *Sheet) Number(n int) { s.Word(strconv.Itoa(n)) }

// Named writes a word and a number.
func (s *Sheet) Named(word string, n int) {
	s.Word(word)
	s.Number(n)
}

// Numbers writes each of a list.
func (s *Sheet) Numbers(list []int) {
	for _, n := range list {
		s.Number(n)
	}
}

// Pairs writes the key and the value of each of a list.
func (s *Sheet) Pairs(list []api.Pair) {
	for _, x := range list {
		s.Number(x.Key)
		s.Number(x.Value)
	}
}

// End ends the line.
func (s *Sheet) End() {
	s.lay("\n")
	s.start = len(s.text)
}

// Text tells all lines that were ended; false: there was one that had no room.
func (s *Sheet) Text() (string, bool) { return string(s.text[:s.start]), !s.full }
