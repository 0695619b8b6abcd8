package judge

import "skein/api"

// The kinds of deeds.
const (
	kindLoad = iota + 1
	kindStore
	kindAdd
	kindSwap
	kindCas
	kindMost
	kindLeast
)

// checkDeeds tells why deeds over so many cells can't be judged.
func checkDeeds(cells int, l []api.Deed) api.Errno {
	if cells == 0 || cells > api.MaxCells || len(l) > api.MaxDeeds {
		return api.ErrJudgeMany
	}
	for _, d := range l {
		if !isRightDeed(d, cells) {
			return api.ErrJudgeCall
		}
	}
	// Where most are at one time, one of them begins.
	for _, d := range l {
		if countAt(l, d.Begin) > api.MaxOpen {
			return api.ErrJudgeMany
		}
	}
	return api.OK
}

func isRightDeed(d api.Deed, cells int) bool {
	return d.Kind >= kindLoad && d.Kind <= kindLeast && d.A >= 0 && d.A < cells && isTime(d.Begin, d.End)
}

// countAt counts the deeds that have begun at a time, and haven't ended ahead of it.
func countAt(l []api.Deed, time int) int {
	n := 0
	for _, d := range l {
		if d.Begin <= time && !wasAhead(d.End, time) {
			n++
		}
	}
	return n
}

// effect: what a deed makes of its cell, and what it answers.
type effect struct {
	held int
	n    int
	ok   bool
}

// alone tells what a deed does, all its lines at once, with a cell that holds so much.
func alone(d api.Deed, held int) effect {
	switch d.Kind {
	case kindLoad:
		return effect{held: held, n: held}
	case kindStore:
		return effect{held: d.B}
	case kindAdd:
		return effect{held: held + d.B, n: held + d.B}
	case kindSwap:
		return effect{held: d.B, n: held}
	case kindCas:
		if held == d.B {
			return effect{held: d.C, ok: true}
		}
		return effect{held: held}
	case kindMost:
		held = max(held, d.B)
	case kindLeast:
		held = min(held, d.B)
	}
	return effect{held: held, n: held}
}

// fits tells whether a deed that does so answered that; an open one answered nothing.
func (e effect) fits(d api.Deed) bool { return d.End == 0 || e.n == d.N && e.ok == d.Ok }
