package script

import (
	"skein/api"
	"skein/sheet"
)

// textOf writes a script whose calls all have a text; false: it is too long.
func textOf(s api.Script) (string, bool) {
	p := sheet.New(api.MaxText)
	writeSetup(p, s.Setup)
	for _, calls := range s.Case.Work {
		p.Word("worker")
		p.End()
		for _, c := range calls {
			callWords[c.Kind].write(p, c)
		}
	}
	writeList(p, "turns", s.Case.Turns)
	writeList(p, "halt", s.Case.Halt)
	if s.Case.Until != 0 {
		p.Named("until", s.Case.Until)
		p.End()
	}
	return p.Text()
}

func writeSetup(p *sheet.Sheet, s api.Setup) {
	p.Named("parts", s.Parts)
	p.Named("workers", s.Workers)
	p.Named("slots", s.Slots)
	p.Named("leases", s.Leases)
	if s.Fails != 0 {
		p.Named("fails", s.Fails)
	}
	p.End()
	for _, x := range s.Source {
		p.Named("source", x.Key)
		p.Number(x.Value)
		p.End()
	}
}

func writeList(p *sheet.Sheet, word string, list []int) {
	if len(list) > 0 {
		p.Word(word)
		p.Numbers(list)
		p.End()
	}
}
