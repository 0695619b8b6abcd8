package sheet

import "skein/api"

// Tell tells a run and its rows, line by line. The last line is "more", if there was one that had no room.
func Tell(run api.Run, rows [][]int) string {
	s := New(api.MaxPlay)
	for k, answers := range run.Answers {
		s.Named("worker", k)
		s.End()
		for i, a := range answers {
			s.answer(i+1, a)
		}
	}
	for _, o := range run.Open {
		s.open(o)
	}
	s.steps(run)
	for _, row := range rows {
		s.Word("row")
		s.Numbers(row)
		s.End()
	}
	text, ok := s.Text()
	if !ok {
		text += "more\n"
	}
	return text
}

// answer writes what a worker's call of that number answered.
func (s *Sheet) answer(number int, a api.Answer) {
	s.Named("call", number)
	s.Named("begin", a.Begin)
	s.Named("end", a.End)
	s.Named("own", a.Own)
	if a.Ok {
		s.Word("ok")
	}
	s.Named("n", a.N)
	s.Named("m", a.M)
	if a.Err != api.OK {
		s.Named("err", int(a.Err))
	}
	if len(a.Ints) > 0 {
		s.Word("ints")
		s.Numbers(a.Ints)
	}
	if len(a.Pairs) > 0 {
		s.Word("pairs")
		s.Pairs(a.Pairs)
	}
	s.End()
}

func (s *Sheet) open(o api.Open) {
	s.Named("open", o.Worker)
	s.Named("begin", o.Begin)
	s.Named("own", o.Own)
	s.End()
}

func (s *Sheet) steps(run api.Run) {
	s.Named("steps", run.Steps)
	if run.Cut {
		s.Word("cut")
	}
	s.End()
}
