package sheet_test

import (
	"strings"
	"testing"

	"skein/api"
	"skein/sheet"
)

// wantSheet asks for a sheet's text, and whether all had room.
func wantSheet(t *testing.T, s *sheet.Sheet, want string, whole bool) {
	t.Helper()
	if text, ok := s.Text(); text != want || ok != whole {
		t.Errorf("%q, %v, want %q, %v", text, ok, want, whole)
	}
}

// Words stand with single blanks between, lines end with a line feed; what isn't ended isn't told.
func TestWords(t *testing.T) {
	s := sheet.New(1000)
	wantSheet(t, s, "", true)
	s.Word("row")
	wantSheet(t, s, "", true)
	s.End()
	wantSheet(t, s, "row\n", true)
	s.Named("n", -5)
	s.Number(0)
	s.Numbers([]int{1, -1 << 63, 1<<63 - 1})
	s.Numbers(nil)
	s.Pairs([]api.Pair{{Key: 1, Value: 10}, {Key: -2}})
	s.Pairs(nil)
	s.Word("x")
	wantSheet(t, s, "row\n", true)
	s.End()
	wantSheet(t, s, "row\nn -5 0 1 -9223372036854775808 9223372036854775807 1 10 -2 0 x\n", true)
	s.End()
	s.Number(7)
	s.End()
	wantSheet(t, s, "row\nn -5 0 1 -9223372036854775808 9223372036854775807 1 10 -2 0 x\n\n7\n", true)
}

// A line that has no room isn't laid, at whichever of its bytes that comes out, and nothing is laid behind it.
func TestBound(t *testing.T) {
	all := []string{"one two 3\n", "\n", "4\n", "five 6 7\n", "8\n"}
	for most := range 40 {
		s := sheet.New(most)
		want, whole := "", true
		for _, line := range all {
			for _, word := range strings.Fields(line) {
				s.Word(word)
			}
			s.End()
			if whole = whole && len(want)+len(line) <= most; whole {
				want += line
			}
		}
		wantSheet(t, s, want, whole)
		s.End() // an empty line more: its line feed, too, must have room
		if whole = whole && len(want) < most; whole {
			want += "\n"
		}
		wantSheet(t, s, want, whole)
	}
}

// Two sheets, and the texts that were told of one, don't touch one another.
func TestTwoSheets(t *testing.T) {
	a, b := sheet.New(10), sheet.New(10)
	a.Word("a")
	b.Word("b")
	a.End()
	b.End()
	first, _ := a.Text()
	a.Word("more")
	a.End()
	a.Word("than is room")
	a.End()
	wantSheet(t, a, "a\nmore\n", false)
	wantSheet(t, b, "b\n", true)
	if first != "a\n" {
		t.Errorf("%q", first)
	}
}
