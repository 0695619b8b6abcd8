package script

// deed: what a line does that begins with a certain word.
type deed func(r *reader, l *line)

// atFirst tells what each word does with which the first line may begin.
func atFirst() map[string]deed {
	return map[string]deed{"parts": (*reader).setup}
}

// further tells it of the lines behind that one.
func further() map[string]deed {
	return withCalls(map[string]deed{
		"source": (*reader).source,
		"worker": (*reader).worker,
		"turns":  (*reader).turns,
		"halt":   (*reader).halt,
		"until":  (*reader).until,
		"repeat": (*reader).repeat,
	})
}

// inRepeat tells it of the lines behind a repeat, up to its end.
func inRepeat() map[string]deed {
	return withCalls(map[string]deed{"end": (*reader).end})
}

// withCalls lays the words of all calls beside those of a table.
func withCalls(deeds map[string]deed) map[string]deed {
	for kind, c := range callWords {
		if kind > 0 {
			deeds[c.word] = (*reader).call
		}
	}
	return deeds
}
